/-
  The document's Numbers, and 'alive'.
-/
import Derived.Test.YtocdnlnhjfigjaaDfLists
import Derived.Deep.RegionHeld3
namespace Go.Proofs.Ytocdnlnhjfigjaa.Dft
open Go.RowKit Go.Shelf Go.Deep Go.Proofs.Ytocdnlnhjfigjaa.Cel Go.Proofs.Ytocdnlnhjfigjaa.Dft.I

set_option maxRecDepth 100000 in
theorem Try.info3 : (Try.prog.info? 3).map (fun i => (i.zero, i.size, i.bytes)) = some (some (.int .i64 0), 1, 8) := by kernel_rfl

section
variable {P : Program}

/-- append onto a row of one's own, what is appended being a slice that may be nil: one step of a region that draws. -/
theorem step_append_opt {ops : Array Oper} {o : Oper} {a : Act} {w : World} {K : Act → World → Prop} {Q : Exit → Act → World → Prop} {E : Prop} (hgd : o.guard = none) (s x : Operand) (t : TypeId)
    (ho : o.op = .call { callee := .builtin .append, args := #[s, x], argTypes := #[t, t] }) (base : Nat) (e : TypeId) (i : TypeInfo) (z : Value) (size bytes : Nat) (ht : P.underlying t = some (.slice e)) (hi : P.info? e = some i) (hz : i.zero = some z)
    (hsize : i.size = size) (hby : i.bytes = bytes) (hzs : z.cells.size = size) (hsz : 0 < size) (v : Value) (n : Nat) (xs : List Value) (hs : a.eval s = v) (hown : w.ownsRow base e size v n xs)
    (ad : Option Addr) (m c : Nat) (news : List Value) (hx : a.eval x = .slice ad m c) (hnone : ad = none → m = 0 ∧ c = 0) (hl : news.length = m * size) (hnews : ∀ q, ad = some q → ∀ j u, news[j]? = some u → w.cell? (q.add j) = some u)
    (h1 : ∀ u ∈ news, u.oneCell' = true) (h63 : n + m ≤ maxLen) (hbytes : (n + m) * bytes ≤ 140737488355328) (hbase : base ≤ w.heap.size)
    (h : ∀ v' w', Hid (w'.ownsRow base e size v' (n + m) (xs ++ news)) → w.grownBy w' v.ownBlock → K (a.put o.dst v') w') :
    if Region.wanted o (yielded ops a.tmps) = true then Oper.wp P o a w K Q else E := by
  have hw : Region.wanted o (yielded ops a.tmps) = true := by simp [Region.wanted, hgd]
  rw [if_pos hw]
  cases ad with
  | none =>
    obtain ⟨rfl, rfl⟩ := hnone rfl
    have hn : news = [] := List.eq_nil_of_length_eq_zero (by rw [hl, Nat.zero_mul])
    subst hn
    have hrun := run_append_owned_none (P := P) (w := w) base t o.type e i size ht hi v n xs hown
    unfold Oper.wp execOp
    simp only [ho, resolve, invoke, builtin, Sem.run_bind, Sem.run_pure, Result.andThen_ok, List.map_toArray, List.map_cons, List.map_nil, hs, hx, hrun]
    exact h _ _ (Hid.mk (by simpa using hown)) (World.grownBy.refl _ _)
  | some q =>
    obtain ⟨v', w', hrun, h2, h3, _⟩ := run_append_own (P := P) w base t o.type e i z size bytes ht hi hz hsize hby hzs hsz v n xs hown q m c news hl (hnews q rfl) h1 h63 hbytes hbase
    unfold Oper.wp execOp
    simp only [ho, resolve, invoke, builtin, Sem.run_bind, Sem.run_pure, Result.andThen_ok, List.map_toArray, List.map_cons, List.map_nil, hs, hx, hrun]
    exact h _ _ (Hid.mk h2) h3

end

/-- A row of numbers of one's own, in a world that is another one above a bound. -/
structure Mid (Z : Nat) (W : World) (v : Value) (n : Nat) (xs : List Value) (w : World) : Prop where
  own : w.ownsRow Z 3 1 v n xs
  bel : Below Z W w
  size : Z ≤ w.heap.size

theorem Mid.start (W Wx : World) (hb : Below W.heap.size W Wx) : Mid W.heap.size W (.slice (some ⟨Wx.heap.size, 0, none⟩) 0 0) 0 [] (Wx.alloc (.cells #[] 3)) :=
  ⟨⟨rfl, .inr ⟨Wx.heap.size, 0, #[], rfl, hb.size, heap_new _ _, Nat.le_refl _, Nat.zero_le _, rfl, rfl⟩⟩, hb.alloc hb.size _, by rw [World.size_alloc]; have := hb.size; omega⟩
theorem Mid.drew {Z : Nat} {W w : World} {v : Value} {n : Nat} {xs : List Value} (h : Mid Z W v n xs w) : Mid Z W v n xs w.drew := ⟨h.own.drew, h.bel.drew, h.size⟩
theorem Mid.alloc {Z : Nat} {W w : World} {v : Value} {n : Nat} {xs : List Value} (h : Mid Z W v n xs w) (o : Obj) : Mid Z W v n xs (w.alloc o) := ⟨h.own.alloc o, h.bel.alloc h.size o, by rw [World.size_alloc]; have := h.size; omega⟩

set_option maxRecDepth 100000 in
theorem step_app {ops : Array Oper} {o : Oper} {a : Act} {w W : World} {Z : Nat} {v : Value} {n : Nat} {xs : List Value} {K : Act → World → Prop} {Q : Exit → Act → World → Prop} {E : Prop} (M : Hid (Mid Z W v n xs w)) (hgd : o.guard = none) (s x : Operand)
    (ho : o.op = .call { callee := .builtin .append, args := #[s, x], argTypes := #[34, 34] }) (i : TypeInfo) (hi : Try.prog.info? 3 = some i) (hz : i.zero = some (.int .i64 0)) (hsize : i.size = 1) (hby : i.bytes = 8) (hs : a.eval s = v)
    (ad : Option Addr) (m c : Nat) (news : List Value) (hx : a.eval x = .slice ad m c) (hnone : ad = none → m = 0 ∧ c = 0) (hl : news.length = m) (hnews : ∀ q, ad = some q → ∀ j u, news[j]? = some u → w.cell? (q.add j) = some u)
    (h1 : ∀ u ∈ news, u.oneCell' = true) (hb : n + m ≤ 1000000)
    (h : ∀ v' w', Hid (Mid Z W v' (n + m) (xs ++ news) w') → w.grownBy w' v.ownBlock → K (a.put o.dst v') w') :
    if Region.wanted o (yielded ops a.tmps) = true then Oper.wp Try.prog o a w K Q else E := by
  refine step_append_opt hgd s x 34 ho Z 3 i _ 1 8 Try.underlying34 hi hz hsize hby rfl (by decide) v n xs hs M.out.own ad m c news hx hnone (by rw [hl, Nat.mul_one]) hnews h1 (by unfold maxLen; omega) (by omega) M.out.size ?_
  intro v' w' H hg
  exact h v' w' ⟨H.out, M.out.bel.grown hg M.out.size (fun k hk => (M.out.own.lt k hk).1), Nat.le_trans M.out.size hg.size⟩ hg

/-- Numbers as cells: each one cell. -/
theorem nuC_one (l : List Int) : ∀ u ∈ nuC l, u.oneCell' = true := by
  intro u hu
  simp only [nuC, List.mem_map] at hu
  obtain ⟨y, _, rfl⟩ := hu
  simp [Value.oneCell']

theorem owns_base {w : World} {B B' e size : Nat} {v : Value} {n : Nat} {xs : List Value} (h : w.ownsRow B' e size v n xs) (hB : B ≤ B') : w.ownsRow B e size v n xs := by
  refine ⟨h.1, ?_⟩
  rcases h.2 with e | ⟨g, cap, cur, e, hb, r⟩
  · exact .inl e
  · exact .inr ⟨g, cap, cur, e, Nat.le_trans hB hb, r⟩

theorem nums_take {l : List (Int × Int)} (j : Nat) (hj : j < l.length) : nums (l.take (j + 1)) = insN (nums (l.take j)) l[j]!.1 := by
  have e : l.take (j + 1) = l.take j ++ [l[j]!] := by
    rw [getElem!_pos l j hj, List.take_succ_eq_append_getElem hj]
  rw [e, nums_snoc]

theorem nums_len (l : List (Int × Int)) (j : Nat) : (nums (l.take j)).length ≤ j := by
  rw [length_nums]
  exact Nat.le_trans (length_ofL _) (by rw [List.length_take]; omega)

set_option maxRecDepth 100000 in
set_option maxHeartbeats 4000000 in
theorem refNumbers_any {w : World} {a : Option Addr} {len cap : Nat} {l : List (Int × Int)} (h : IsPts w a len cap l) (hs : len ≤ 1000) :
    Calls Try.prog 10 #[.slice a len cap] w fun e w' => (∃ v, e = .returned v ∧ w'.ownsRow w.heap.size 3 1 v (nums l).length (nuC (nums l))) ∧ Below w.heap.size w w' := by
  obtain ⟨i0, hi, hz0, hz1, hz2⟩ := info_parts Try.info3
  have HL := Hid.mk h.1
  have HI := Hid.mk h
  clear h
  obtain ⟨B, hB⟩ : ∃ B, B = w.heap.size := ⟨_, rfl⟩
  have HB0 := Hid.mk hB
  rw [← hB]
  clear hB
  go_enter Try.func10, Try.ntmps10
  go_wp2
  go_loopw [3, 9] (fun s3 idx wr => ∃ j : Nat, j ≤ len ∧ idx = .int .i64 j ∧ Hid (wr.ownsRow B 3 1 s3 (nums (l.take j)).length (nuC (nums (l.take j)))) ∧ Hid (Below B w wr) ∧ Hid ((nums (l.take j)).length = 0 → s3 = .slice none 0 0)) (fun _ idx _ => len - (intOf idx).toNat)
  case atStart => exact ⟨0, Nat.zero_le _, rfl, Hid.mk (World.ownsRow_nil _ _ _ _), Hid.mk (Below.refl _ _), Hid.mk (fun _ => rfl)⟩
  case round =>
    obtain ⟨j, hj, rfl, hO, hBl, hnil⟩ := hrel
    by_cases hlt : j < len
    · have hjl : j < l.length := by have := HL.out; omega
      have hBsz : B ≤ wr.heap.size := by have := hBl.out.size; have := HB0.out; omega
      obtain ⟨g, off, e, hat⟩ := (HI.out.carry (by rw [← HB0.out]; exact hBl.out)).at_ (by omega)
      subst e
      have c0 := hat.k j hjl
      have c1 := hat.i j hjl
      have HNT := Hid.mk (nums_take (l := l) j hjl)
      have HLE := Hid.mk (nums_len l j)
      have HUP := Hid.mk (up_nums (l.take j))
      obtain ⟨NJ, hNJ⟩ : ∃ NJ, NJ = nums (l.take j) := ⟨_, rfl⟩
      obtain ⟨pi, hpi⟩ : ∃ y, y = l[j]!.1 := ⟨_, rfl⟩
      obtain ⟨pv, hpv⟩ : ∃ y, y = l[j]!.2 := ⟨_, rfl⟩
      rw [← hNJ] at hO hnil HNT HLE HUP
      rw [← hpi] at c0 HNT
      rw [← hpv] at c1
      have hgl : g < wr.heap.size := World.block_lt_of_cell? wr _ c0
      have hlen := hO.out.1
      obtain ⟨va, vc, e⟩ := row_shape hO.out
      subst e
      obtain ⟨LN, hLN⟩ : ∃ LN, LN = NJ.length := ⟨_, rfl⟩
      have HO : Hid (wr.ownsRow B 3 1 (.slice va LN vc) LN (nuC NJ)) := by rw [hLN]; exact hO
      have HNIL : Hid (LN = 0 → (.slice va LN vc : Value) = .slice none 0 0) := by rw [hLN]; exact hnil
      have HLN := Hid.mk hLN
      have hLj : LN ≤ j := by rw [hLN]; exact HLE.out
      have HNJ := Hid.mk hNJ
      have HPI := Hid.mk hpi
      rw [← hLN]
      clear hat hO hnil hNJ hpi hpv hlen hLN hjl HI
      go_wp2
      go_loopw [6] (fun s6 wx => ∃ k : Nat, k ≤ LN ∧ s6 = .int .i64 k ∧ (∃ n, wx = (wr.alloc (.cells #[.int .i64 pi, .int .i64 pv] 29)).drewN n) ∧ Hid (∀ t, t < k → NJ[t]! < pi)) (fun s6 _ => LN - (intOf s6).toNat)
      case atStart => exact ⟨0, Nat.zero_le _, rfl, ⟨0, rfl⟩, Hid.mk (fun t ht => absurd ht (Nat.not_lt_zero t))⟩
      case round =>
        obtain ⟨k, hk, rfl, ⟨n, rfl⟩, HK⟩ := hrel
        by_cases hkl : k < LN
        · obtain ⟨g2, cap2, e⟩ := row_full HO.out (by omega)
          injection e with e1 _ e3
          subst e1 e3
          have d0 : wr.cell? ⟨g2, k, none⟩ = some (.int .i64 NJ[k]!) := by
            have := HO.out.cells (g := g2) rfl k _ (nuC_get NJ k (by have := HLN.out; omega))
            rwa [addP] at this
          have hg2 : g2 < wr.heap.size := (HO.out.lt g2 rfl).2
          obtain ⟨y, hy⟩ : ∃ y, y = NJ[k]! := ⟨_, rfl⟩
          rw [← hy] at d0
          have HY := Hid.mk hy
          clear hy
          by_cases hc : y < pi
          · go_wp2_with fail
            go_quiet (fail)
            go_wp2
            go_roundw
            case rel => exact ⟨k + 1, by omega, by go_num, ⟨_, rfl⟩, Hid.mk (fun t ht => by
              by_cases e : t = k
              · rw [e, ← HY.out]; exact hc
              · exact HK.out t (by omega))⟩
            case measure => simp [intOf]; omega
          · go_wp2_with fail
            go_quiet (fail)
            revert nq
            intro nq1
            go_wp2_with fail
            by_cases hq : y = pi
            · have hkn : ¬ (k : Int) = (LN : Int) := by omega
              have HS : Hid (insN NJ pi = NJ) := Hid.mk (ins_yes (p := k) ⟨by have := HLN.out; omega, HK.out, fun t h1 h2 => by
                rcases Nat.eq_or_lt_of_le h1 with rfl | h
                · rw [← HY.out]; omega
                · have := HUP.out.at k t h h2
                  have := HY.out
                  omega⟩ HUP.out (by have := HLN.out; omega) (by rw [← HY.out]; exact hq))
              have HBW : Hid (Below B w ((wr.alloc (.cells #[.int .i64 pi, .int .i64 pv] 29)))) := Hid.mk (hBl.out.alloc hBsz _)
              have HQ := Hid.mk hq
              clear hc
              rw [hq] at d0
              clear hq
              go_quiet (fail)
              go_wp2
              go_roundw
              case rel =>
                refine ⟨j + 1, by omega, by go_num, ?_, ?_, ?_⟩
                · rw [HNT.out, HS.out, ← HLN.out]
                  exact Hid.mk (ownsRow_carry (HO.out.alloc (.cells #[.int .i64 pi, .int .i64 pv] 29)) (fun k _ => rfl))
                · exact Hid.mk (HBW.out.trans ⟨rfl, rfl, rfl, Nat.le_refl _, fun _ _ => rfl⟩)
                · rw [HNT.out, HS.out, ← HLN.out]
                  exact HNIL
              case measure => simp [intOf]; omega
            · have hkn : ¬ (k : Int) = (LN : Int) := by omega
              have hq3 : (y != pi) = true := by simpa using hq
              have HQ := Hid.mk hq
              have hkc : k ≤ vc := by
                rcases HO.out.2 with ⟨e, _⟩ | ⟨_, cap, _, e, _, _, hnc, _⟩
                · injection e with e _ _; cases e
                · injection e with _ _ e; omega
              have hvc : ¬ vc = k := by
                rcases HO.out.2 with ⟨e, _⟩ | ⟨_, cap, _, e, _, _, hnc, _⟩
                · injection e with e _ _; cases e
                · injection e with _ _ e; omega
              have HS : Hid (insN NJ pi = NJ.take k ++ pi :: NJ.drop k) := Hid.mk (ins_no (p := k) ⟨by have := HLN.out; omega, HK.out, fun t h1 h2 => by
                rcases Nat.eq_or_lt_of_le h1 with rfl | h
                · rw [← HY.out]; omega
                · have := HUP.out.at k t h h2
                  have := HY.out
                  omega⟩ HUP.out (fun h => HQ.out (by rw [HY.out]; exact h.2)))
              go_quiet (fail)
              go_wp2_with fail
              have hB9 : Below wr.heap.size wr ((((wr.alloc (.cells #[.int .i64 pi, .int .i64 pv] 29)).drewN n).drewN nq1).drewN nq) := ((Below.refl _ _).alloc (Nat.le_refl _) _).trans ⟨rfl, rfl, rfl, Nat.le_refl _, fun _ _ => rfl⟩
              have hp9 : ((((wr.alloc (.cells #[.int .i64 pi, .int .i64 pv] 29)).drewN n).drewN nq1).drewN nq).cell? ⟨wr.heap.size, 0, none⟩ = some (.int .i64 pi) := cell_at (heap_new wr _) rfl
              obtain ⟨W9, hW9⟩ : ∃ z, z = ((((wr.alloc (.cells #[.int .i64 pi, .int .i64 pv] 29)).drewN n).drewN nq1).drewN nq) := ⟨_, rfl⟩
              rw [← hW9] at hB9 hp9 ⊢
              have hs9 : W9.heap.size = wr.heap.size + 1 := by rw [hW9]; simp
              clear hW9
              have HB9 := Hid.mk hB9
              have HP9 := Hid.mk hp9
              have HS9 := Hid.mk hs9
              have HZ : Hid (wr.heap.size < W9.heap.size) := Hid.mk (by omega)
              have HT1 : Hid ((nuC (NJ.take k)).length = k) := Hid.mk (by rw [nuC_length, List.length_take]; have := HLN.out; omega)
              have HT2 : Hid ((nuC (NJ.drop k)).length = LN - k) := Hid.mk (by rw [nuC_length, List.length_drop]; have := HLN.out; omega)
              have HU1 := Hid.mk (nuC_one (NJ.take k))
              have HU2 := Hid.mk (nuC_one (NJ.drop k))
              have HCC : Hid (∀ wx, Below W9.heap.size W9 wx → ∀ j u, (nuC NJ)[j]? = some u → wx.cell? ⟨g2, j, none⟩ = some u) := Hid.mk (fun wx hx j u hu => by
                have e1 := HO.out.cells (g := g2) rfl j u hu
                rw [addP] at e1
                have hlt2 : g2 < wr.heap.size := hg2
                exact (hx.cell (p := ⟨g2, j, none⟩) (by have := HZ.out; show g2 < _; omega)).trans ((HB9.out.cell (p := ⟨g2, j, none⟩) hlt2).trans e1))
              have HC1 : Hid (∀ wx, Below W9.heap.size W9 wx → ∀ j u, (nuC (NJ.take k))[j]? = some u → wx.cell? ((⟨g2, 0, none⟩ : Addr).add j) = some u) := Hid.mk (fun wx hx j u hu => by
                rw [add_plain, Nat.zero_add]
                refine HCC.out wx hx j u ?_
                simp only [nuC, List.map_take, List.getElem?_take] at hu ⊢
                split at hu
                · exact hu
                · cases hu)
              have HC2 : Hid (∀ wx, Below W9.heap.size W9 wx → ∀ j u, (nuC (NJ.drop k))[j]? = some u → wx.cell? ((⟨g2, k, none⟩ : Addr).add j) = some u) := Hid.mk (fun wx hx j u hu => by
                rw [add_plain]
                refine HCC.out wx hx (k + j) u ?_
                simpa [nuC, List.map_drop, List.getElem?_drop] using hu)
              have HFIN : Hid (∀ v m (wx : World), Mid W9.heap.size W9 v m ((([] ++ nuC (NJ.take k)) ++ [.int .i64 pi]) ++ nuC (NJ.drop k)) wx → wx.ownsRow B 3 1 v (nums (l.take (j + 1))).length (nuC (nums (l.take (j + 1))))) := Hid.mk (fun v m wx hm => by
                rw [HNT.out, HS.out]
                have e : (([] ++ nuC (NJ.take k)) ++ [.int .i64 pi]) ++ nuC (NJ.drop k) = nuC (NJ.take k ++ pi :: NJ.drop k) := by simp [nuC]
                have h1 := hm.own
                rw [e] at h1
                have hl : m = (NJ.take k ++ pi :: NJ.drop k).length := by have := h1.1; rw [nuC_length] at this; omega
                rw [hl] at h1
                exact owns_base h1 (by have := HZ.out; omega))
              have HFN : Hid (¬ (nums (l.take (j + 1))).length = 0) := Hid.mk (by rw [HNT.out, HS.out]; simp)
              have HBZ : Hid (B ≤ W9.heap.size) := Hid.mk (by omega)
              have HBW9 : Hid (Below B w W9) := Hid.mk (hBl.out.trans (HB9.out.mono hBsz))
              clear hB9 hp9 hs9 hq hq3 hc d0 c0 c1 hg2
              refine wp_region_held_drew (S := fun wx => wx.cell? ⟨wr.heap.size, 0, none⟩ = some (.int .i64 pi)) (by kernel_rfl) HP9.out (fun hHeld => ?_)
              refine wpAnyH_take (i := 1) (v := ?_) rfl (by kernel_rfl) (by kernel_rfl) (by kernel_rfl) (fun _ _ _ h => h) (Or.inl ⟨by rfl, ?h1⟩) (by assumption) ?_
              case h1 =>
                intro wx hSw
                try dsimp only at hSw
                go_simp
                try with_reducible rfl
              refine wpAnyH_take (i := 2) (v := ?_) rfl (by kernel_rfl) (by kernel_rfl) (by kernel_rfl) (fun _ _ _ h => h) (Or.inl ⟨by rfl, ?h2⟩) (by assumption) ?_
              case h2 =>
                intro wx hSw
                try dsimp only at hSw
                go_simp
                try with_reducible rfl
              refine wpAnyH_take (i := 3) (v := ?_) rfl (by kernel_rfl) (by kernel_rfl) (by kernel_rfl) (fun _ _ _ h => h) (Or.inl ⟨by rfl, ?h3⟩) (by assumption) ?_
              case h3 =>
                intro wx hSw
                try dsimp only at hSw
                go_simp
                try with_reducible rfl
              refine wpAnyH_take (i := 9) (v := ?_) rfl (by kernel_rfl) (by kernel_rfl) (by kernel_rfl) (fun _ _ _ h => h) (Or.inl ⟨by rfl, ?h9⟩) (by assumption) ?_
              case h9 =>
                intro wx hSw
                try dsimp only at hSw
                go_simp
                try with_reducible rfl
              refine wpAnyH_take (i := 10) (v := ?_) rfl (by kernel_rfl) (by kernel_rfl) (by kernel_rfl) (fun _ _ _ h => h) (Or.inl ⟨by rfl, ?h10⟩) (by assumption) ?_
              case h10 =>
                intro wx hSw
                try dsimp only at hSw
                go_simp
                try with_reducible rfl
              refine wpAnyH_take (i := 11) (v := ?_) rfl (by kernel_rfl) (by kernel_rfl) (by kernel_rfl) (fun _ _ _ h => h) (Or.inl ⟨by rfl, ?h11⟩) (by assumption) ?_
              case h11 =>
                intro wx hSw
                try dsimp only at hSw
                go_simp
                try with_reducible rfl
              refine wpAnyH_take (i := 5) (v := ?_) rfl (by kernel_rfl) (by kernel_rfl) (by kernel_rfl) (fun _ _ _ h => h) (Or.inl ⟨by rfl, ?h5⟩) (by assumption) ?_
              case h5 =>
                intro wx hSw
                try dsimp only at hSw
                go_simp
                try with_reducible rfl
              refine wpAnyH_take (i := 6) (v := ?_) rfl (by kernel_rfl) (by kernel_rfl) (by kernel_rfl) (fun _ _ _ h => h) (Or.inl ⟨by rfl, ?h6⟩) (by assumption) ?_
              case h6 =>
                intro wx hSw
                try dsimp only at hSw
                go_simp
                try with_reducible rfl
              refine wpAnyH_ready (rs := [0, 7]) (by kernel_rfl) (by simp) ?_
              refine AllReadyH.cons rfl (fun K hK => ?_) ?_
              · go_simp
                have M0 := Hid.mk (Mid.start W9 W9 (Below.refl _ _)).drew
                refine hK.out _ _ ((M0.out.bel.cell (p := ⟨wr.heap.size, 0, none⟩) HZ.out).trans HP9.out) (fun _ => ?_)
                clear hK K
                refine wpAnyH_ready (rs := [4, 7]) (by kernel_rfl) (by simp) ?_
                refine AllReadyH.cons rfl (fun K hK => ?_) ?_
                · refine step_app M0 (by rfl) _ _ (by rfl) i0 hi hz0 hz1 hz2 (by rfl) (some ⟨g2, 0, none⟩) k vc (nuC (NJ.take k)) (by rfl) (fun e => by cases e) HT1.out (fun q e => by cases e; exact HC1.out _ M0.out.bel) HU1.out (by omega) ?_
                  intro v4 w4 H4 G4
                  refine hK.out _ _ ((H4.out.bel.cell (p := ⟨wr.heap.size, 0, none⟩) HZ.out).trans HP9.out) (fun _ => ?_)
                  clear hK K
                  refine wpAnyH_ready (rs := [7]) (by kernel_rfl) (by simp) ?_
                  refine AllReadyH.cons rfl (fun K hK => ?_) AllReadyH.nil
                  go_simp
                  have M7 := Hid.mk (H4.out.alloc (.cells #[.int .i64 pi] 3))
                  refine hK.out _ _ ((M7.out.bel.cell (p := ⟨wr.heap.size, 0, none⟩) HZ.out).trans HP9.out) (fun _ => ?_)
                  clear hK K
                  have hn : (w4.alloc (.cells #[.int .i64 pi] 3)).heap[w4.heap.size]? = some (.cells #[.int .i64 pi] 3 (0, 0)) := heap_new _ _
                  refine wpAnyH_ready (rs := [8]) (by kernel_rfl) (by simp) ?_
                  refine AllReadyH.cons rfl (fun K hK => ?_) AllReadyH.nil
                  refine step_app M7 (by rfl) _ _ (by rfl) i0 hi hz0 hz1 hz2 (by rfl) (some ⟨w4.heap.size, 0, none⟩) 1 1 [.int .i64 pi] (by rfl) (fun e => by cases e) rfl (fun q e => by cases e; exact World.news_of_block hn) (by simp [Value.oneCell']) (by omega) ?_
                  intro v8 w8 H8 G8
                  refine hK.out _ _ ((H8.out.bel.cell (p := ⟨wr.heap.size, 0, none⟩) HZ.out).trans HP9.out) (fun _ => ?_)
                  clear hK K
                  refine wpAnyH_ready (rs := [12]) (by kernel_rfl) (by simp) ?_
                  refine AllReadyH.cons rfl (fun K hK => ?_) AllReadyH.nil
                  refine step_app H8 (by rfl) _ _ (by rfl) i0 hi hz0 hz1 hz2 (by rfl) (some ⟨g2, k, none⟩) (LN - k) (vc - k) (nuC (NJ.drop k)) (by rfl) (fun e => by cases e) HT2.out (fun q e => by cases e; exact HC2.out _ H8.out.bel) HU2.out (by omega) ?_
                  intro v12 w12 H12 G12
                  refine hK.out _ _ ((H12.out.bel.cell (p := ⟨wr.heap.size, 0, none⟩) HZ.out).trans HP9.out) (fun _ => ?_)
                  clear hK K
                  refine wpAnyH_ready (rs := [13]) (by kernel_rfl) (by simp) ?_
                  refine AllReadyH.cons rfl (fun K hK => ?_) AllReadyH.nil
                  go_simp
                  refine hK.out _ _ ((H12.out.bel.cell (p := ⟨wr.heap.size, 0, none⟩) HZ.out).trans HP9.out) (fun _ => ?_)
                  clear hK K
                  refine wpAnyH_done (by kernel_rfl) ?_ _
                  clear hHeld hn
                  refine NoPanic.normal ?_
                  go_wp2
                  go_roundw
                  case rel => exact ⟨j + 1, by omega, by go_num, Hid.mk (HFIN.out _ _ _ H12.out), Hid.mk (HBW9.out.trans (H12.out.bel.mono HBZ.out)), Hid.mk (fun h => absurd h HFN.out)⟩
                  case measure => simp [intOf]; omega
                · refine AllReadyH.cons rfl (fun K hK => ?_) AllReadyH.nil
                  go_simp
                  have M7 := Hid.mk ((Mid.start W9 W9 (Below.refl _ _)).alloc (.cells #[.int .i64 pi] 3)).drew
                  refine hK.out _ _ ((M7.out.bel.cell (p := ⟨wr.heap.size, 0, none⟩) HZ.out).trans HP9.out) (fun _ => ?_)
                  clear hK K
                  refine wpAnyH_ready (rs := [4]) (by kernel_rfl) (by simp) ?_
                  refine AllReadyH.cons rfl (fun K hK => ?_) AllReadyH.nil
                  refine step_app M7 (by rfl) _ _ (by rfl) i0 hi hz0 hz1 hz2 (by rfl) (some ⟨g2, 0, none⟩) k vc (nuC (NJ.take k)) (by rfl) (fun e => by cases e) HT1.out (fun q e => by cases e; exact HC1.out _ M7.out.bel) HU1.out (by omega) ?_
                  intro v4 w4 H4 G4
                  refine hK.out _ _ ((H4.out.bel.cell (p := ⟨wr.heap.size, 0, none⟩) HZ.out).trans HP9.out) (fun _ => ?_)
                  clear hK K
                  have hn : w4.heap[W9.heap.size + 1]? = some (.cells #[.int .i64 pi] 3 (0, 0)) := (G4.block (W9.heap.size + 1) (by simp) (fun e => by have := Option.some.inj e; simp at this)).trans (by
                    have h := heap_new (W9.alloc (.cells #[] 3)) (.cells #[.int .i64 pi] 3)
                    rw [World.size_alloc] at h
                    exact h)
                  refine wpAnyH_ready (rs := [8]) (by kernel_rfl) (by simp) ?_
                  refine AllReadyH.cons rfl (fun K hK => ?_) AllReadyH.nil
                  refine step_app H4 (by rfl) _ _ (by rfl) i0 hi hz0 hz1 hz2 (by rfl) (some ⟨W9.heap.size + 1, 0, none⟩) 1 1 [.int .i64 pi] (by rfl) (fun e => by cases e) rfl (fun q e => by cases e; exact World.news_of_block hn) (by simp [Value.oneCell']) (by omega) ?_
                  intro v8 w8 H8 G8
                  refine hK.out _ _ ((H8.out.bel.cell (p := ⟨wr.heap.size, 0, none⟩) HZ.out).trans HP9.out) (fun _ => ?_)
                  clear hK K
                  refine wpAnyH_ready (rs := [12]) (by kernel_rfl) (by simp) ?_
                  refine AllReadyH.cons rfl (fun K hK => ?_) AllReadyH.nil
                  refine step_app H8 (by rfl) _ _ (by rfl) i0 hi hz0 hz1 hz2 (by rfl) (some ⟨g2, k, none⟩) (LN - k) (vc - k) (nuC (NJ.drop k)) (by rfl) (fun e => by cases e) HT2.out (fun q e => by cases e; exact HC2.out _ H8.out.bel) HU2.out (by omega) ?_
                  intro v12 w12 H12 G12
                  refine hK.out _ _ ((H12.out.bel.cell (p := ⟨wr.heap.size, 0, none⟩) HZ.out).trans HP9.out) (fun _ => ?_)
                  clear hK K
                  refine wpAnyH_ready (rs := [13]) (by kernel_rfl) (by simp) ?_
                  refine AllReadyH.cons rfl (fun K hK => ?_) AllReadyH.nil
                  go_simp
                  refine hK.out _ _ ((H12.out.bel.cell (p := ⟨wr.heap.size, 0, none⟩) HZ.out).trans HP9.out) (fun _ => ?_)
                  clear hK K
                  refine wpAnyH_done (by kernel_rfl) ?_ _
                  clear hHeld hn
                  refine NoPanic.normal ?_
                  go_wp2
                  go_roundw
                  case rel => exact ⟨j + 1, by omega, by go_num, Hid.mk (HFIN.out _ _ _ H12.out), Hid.mk (HBW9.out.trans (H12.out.bel.mono HBZ.out)), Hid.mk (fun h => absurd h HFN.out)⟩
                  case measure => simp [intOf]; omega
              · refine AllReadyH.cons rfl (fun K hK => ?_) AllReadyH.nil
                go_simp
                have MP : Hid (Below W9.heap.size W9 (W9.alloc (.cells #[.int .i64 pi] 3))) := Hid.mk ((Below.refl _ _).alloc (Nat.le_refl _) _)
                refine hK.out _ _ ((MP.out.cell (p := ⟨wr.heap.size, 0, none⟩) HZ.out).trans HP9.out) (fun _ => ?_)
                clear hK K
                refine wpAnyH_ready (rs := [0]) (by kernel_rfl) (by simp) ?_
                refine AllReadyH.cons rfl (fun K hK => ?_) AllReadyH.nil
                go_simp
                have M0 : Hid (Mid W9.heap.size W9 (.slice (some ⟨W9.heap.size + 1, 0, none⟩) 0 0) 0 [] (((W9.alloc (.cells #[.int .i64 pi] 3)).alloc (.cells #[] 3)).drew)) := Hid.mk (by
                  have h := (Mid.start W9 (W9.alloc (.cells #[.int .i64 pi] 3)) MP.out).drew
                  rw [World.size_alloc] at h
                  exact h)
                refine hK.out _ _ ((M0.out.bel.cell (p := ⟨wr.heap.size, 0, none⟩) HZ.out).trans HP9.out) (fun _ => ?_)
                clear hK K
                refine wpAnyH_ready (rs := [4]) (by kernel_rfl) (by simp) ?_
                refine AllReadyH.cons rfl (fun K hK => ?_) AllReadyH.nil
                refine step_app M0 (by rfl) _ _ (by rfl) i0 hi hz0 hz1 hz2 (by rfl) (some ⟨g2, 0, none⟩) k vc (nuC (NJ.take k)) (by rfl) (fun e => by cases e) HT1.out (fun q e => by cases e; exact HC1.out _ M0.out.bel) HU1.out (by omega) ?_
                intro v4 w4 H4 G4
                refine hK.out _ _ ((H4.out.bel.cell (p := ⟨wr.heap.size, 0, none⟩) HZ.out).trans HP9.out) (fun _ => ?_)
                clear hK K
                have hn : w4.heap[W9.heap.size]? = some (.cells #[.int .i64 pi] 3 (0, 0)) := (G4.block W9.heap.size (by simp; omega) (fun e => by have := Option.some.inj e; simp at this)).trans ((Below.heap_alloc _ _ _ (by simp)).trans (heap_new W9 (.cells #[.int .i64 pi] 3)))
                refine wpAnyH_ready (rs := [8]) (by kernel_rfl) (by simp) ?_
                refine AllReadyH.cons rfl (fun K hK => ?_) AllReadyH.nil
                refine step_app H4 (by rfl) _ _ (by rfl) i0 hi hz0 hz1 hz2 (by rfl) (some ⟨W9.heap.size, 0, none⟩) 1 1 [.int .i64 pi] (by rfl) (fun e => by cases e) rfl (fun q e => by cases e; exact World.news_of_block hn) (by simp [Value.oneCell']) (by omega) ?_
                intro v8 w8 H8 G8
                refine hK.out _ _ ((H8.out.bel.cell (p := ⟨wr.heap.size, 0, none⟩) HZ.out).trans HP9.out) (fun _ => ?_)
                clear hK K
                refine wpAnyH_ready (rs := [12]) (by kernel_rfl) (by simp) ?_
                refine AllReadyH.cons rfl (fun K hK => ?_) AllReadyH.nil
                refine step_app H8 (by rfl) _ _ (by rfl) i0 hi hz0 hz1 hz2 (by rfl) (some ⟨g2, k, none⟩) (LN - k) (vc - k) (nuC (NJ.drop k)) (by rfl) (fun e => by cases e) HT2.out (fun q e => by cases e; exact HC2.out _ H8.out.bel) HU2.out (by omega) ?_
                intro v12 w12 H12 G12
                refine hK.out _ _ ((H12.out.bel.cell (p := ⟨wr.heap.size, 0, none⟩) HZ.out).trans HP9.out) (fun _ => ?_)
                clear hK K
                refine wpAnyH_ready (rs := [13]) (by kernel_rfl) (by simp) ?_
                refine AllReadyH.cons rfl (fun K hK => ?_) AllReadyH.nil
                go_simp
                refine hK.out _ _ ((H12.out.bel.cell (p := ⟨wr.heap.size, 0, none⟩) HZ.out).trans HP9.out) (fun _ => ?_)
                clear hK K
                refine wpAnyH_done (by kernel_rfl) ?_ _
                clear hHeld hn
                refine NoPanic.normal ?_
                go_wp2
                go_roundw
                case rel => exact ⟨j + 1, by omega, by go_num, Hid.mk (HFIN.out _ _ _ H12.out), Hid.mk (HBW9.out.trans (H12.out.bel.mono HBZ.out)), Hid.mk (fun h => absurd h HFN.out)⟩
                case measure => simp [intOf]; omega
        · obtain rfl : k = LN := by omega
          have hlen : k = NJ.length := HLN.out
          have HNK : Hid (Stands (fun x => x) NJ pi k) := Hid.mk ⟨by omega, HK.out, fun t h1 h2 => by omega⟩
          have HNN : Hid (¬ (k < NJ.length ∧ NJ[k]! = pi)) := Hid.mk (fun h => by have := h.1; omega)
          have HTK : Hid (NJ.take k = NJ) := Hid.mk (by rw [hlen, List.take_length])
          have HDK : Hid (NJ.drop k = []) := Hid.mk (by rw [hlen, List.drop_length])
          clear hlen
          go_wp2_with fail
          go_quiet (fail)
          revert nq
          intro nq1
          go_wp2_with fail
          rcases HO.out.2 with ⟨e, h0⟩ | ⟨g2, cap2, cur, e, hb2, hg2', hnc, hcm, _, _⟩
          · injection e with e1 e2 e3
            subst e1 e3
            subst e2
            have HS : Hid (insN NJ pi = [pi]) := Hid.mk (by rw [ins_no HNK.out HUP.out HNN.out, HTK.out, HDK.out, List.eq_nil_of_length_eq_zero (HLN.out.symm)]; rfl)
            go_quiet (fail)
            go_wp2_with fail
            have hB9 : Below wr.heap.size wr ((wr.alloc (.cells #[.int .i64 pi, .int .i64 pv] 29)).drewN (n + nq1 + nq)) := ((Below.refl _ _).alloc (Nat.le_refl _) _).trans ⟨rfl, rfl, rfl, Nat.le_refl _, fun _ _ => rfl⟩
            have hp9 : ((wr.alloc (.cells #[.int .i64 pi, .int .i64 pv] 29)).drewN (n + nq1 + nq)).cell? ⟨wr.heap.size, 0, none⟩ = some (.int .i64 pi) := cell_at (heap_new wr _) rfl
            obtain ⟨W9, hW9⟩ : ∃ z, z = ((wr.alloc (.cells #[.int .i64 pi, .int .i64 pv] 29)).drewN (n + nq1 + nq)) := ⟨_, rfl⟩
            rw [← hW9] at hB9 hp9 ⊢
            have hs9 : W9.heap.size = wr.heap.size + 1 := by rw [hW9]; simp
            clear hW9
            have HB9 := Hid.mk hB9
            have HP9 := Hid.mk hp9
            have HS9 := Hid.mk hs9
            have HZ : Hid (wr.heap.size < W9.heap.size) := Hid.mk (by omega)
            have HFIN : Hid (∀ v m (wx : World), Mid W9.heap.size W9 v m ((([] ++ []) ++ [.int .i64 pi]) ++ []) wx → wx.ownsRow B 3 1 v (nums (l.take (j + 1))).length (nuC (nums (l.take (j + 1))))) := Hid.mk (fun v m wx hm => by
              rw [HNT.out, HS.out]
              have e : (([] ++ []) ++ [.int .i64 pi]) ++ [] = nuC [pi] := by simp [nuC]
              have h1 := hm.own
              rw [e] at h1
              have hl : m = [pi].length := by have := h1.1; rw [nuC_length] at this; omega
              rw [hl] at h1
              exact owns_base h1 (by have := HZ.out; omega))
            have HFN : Hid (¬ (nums (l.take (j + 1))).length = 0) := Hid.mk (by rw [HNT.out, HS.out]; simp)
            have HBZ : Hid (B ≤ W9.heap.size) := Hid.mk (by omega)
            have HBW9 : Hid (Below B w W9) := Hid.mk (hBl.out.trans (HB9.out.mono hBsz))
            clear hB9 hp9 hs9 c0 c1
            refine wp_region_held_drew (S := fun wx => wx.cell? ⟨wr.heap.size, 0, none⟩ = some (.int .i64 pi)) (by kernel_rfl) HP9.out (fun hHeld => ?_)
            refine wpAnyH_take (i := 1) (v := ?_) rfl (by kernel_rfl) (by kernel_rfl) (by kernel_rfl) (fun _ _ _ h => h) (Or.inl ⟨by rfl, ?h1⟩) (by assumption) ?_
            case h1 =>
              intro wx hSw
              try dsimp only at hSw
              go_simp
              try with_reducible rfl
            refine wpAnyH_take (i := 2) (v := ?_) rfl (by kernel_rfl) (by kernel_rfl) (by kernel_rfl) (fun _ _ _ h => h) (Or.inl ⟨by rfl, ?h2⟩) (by assumption) ?_
            case h2 =>
              intro wx hSw
              try dsimp only at hSw
              go_simp
              try with_reducible rfl
            refine wpAnyH_take (i := 3) (v := ?_) rfl (by kernel_rfl) (by kernel_rfl) (by kernel_rfl) (fun _ _ _ h => h) (Or.inl ⟨by rfl, ?h3⟩) (by assumption) ?_
            case h3 =>
              intro wx hSw
              try dsimp only at hSw
              go_simp
              try with_reducible rfl
            refine wpAnyH_take (i := 9) (v := ?_) rfl (by kernel_rfl) (by kernel_rfl) (by kernel_rfl) (fun _ _ _ h => h) (Or.inl ⟨by rfl, ?h9⟩) (by assumption) ?_
            case h9 =>
              intro wx hSw
              try dsimp only at hSw
              go_simp
              try with_reducible rfl
            refine wpAnyH_take (i := 10) (v := ?_) rfl (by kernel_rfl) (by kernel_rfl) (by kernel_rfl) (fun _ _ _ h => h) (Or.inl ⟨by rfl, ?h10⟩) (by assumption) ?_
            case h10 =>
              intro wx hSw
              try dsimp only at hSw
              go_simp
              try with_reducible rfl
            refine wpAnyH_take (i := 11) (v := ?_) rfl (by kernel_rfl) (by kernel_rfl) (by kernel_rfl) (fun _ _ _ h => h) (Or.inl ⟨by rfl, ?h11⟩) (by assumption) ?_
            case h11 =>
              intro wx hSw
              try dsimp only at hSw
              go_simp
              try with_reducible rfl
            refine wpAnyH_take (i := 5) (v := ?_) rfl (by kernel_rfl) (by kernel_rfl) (by kernel_rfl) (fun _ _ _ h => h) (Or.inl ⟨by rfl, ?h5⟩) (by assumption) ?_
            case h5 =>
              intro wx hSw
              try dsimp only at hSw
              go_simp
              try with_reducible rfl
            refine wpAnyH_take (i := 6) (v := ?_) rfl (by kernel_rfl) (by kernel_rfl) (by kernel_rfl) (fun _ _ _ h => h) (Or.inl ⟨by rfl, ?h6⟩) (by assumption) ?_
            case h6 =>
              intro wx hSw
              try dsimp only at hSw
              go_simp
              try with_reducible rfl
            refine wpAnyH_ready (rs := [0, 7]) (by kernel_rfl) (by simp) ?_
            refine AllReadyH.cons rfl (fun K hK => ?_) ?_
            · go_simp
              have M0 := Hid.mk (Mid.start W9 W9 (Below.refl _ _)).drew
              refine hK.out _ _ ((M0.out.bel.cell (p := ⟨wr.heap.size, 0, none⟩) HZ.out).trans HP9.out) (fun _ => ?_)
              clear hK K
              refine wpAnyH_ready (rs := [4, 7]) (by kernel_rfl) (by simp) ?_
              refine AllReadyH.cons rfl (fun K hK => ?_) ?_
              · refine step_app M0 (by rfl) _ _ (by rfl) i0 hi hz0 hz1 hz2 (by rfl) none 0 0 [] (by rfl) (fun _ => ⟨rfl, rfl⟩) rfl (fun q e => by cases e) (fun _ e => by cases e) (by omega) ?_
                intro v4 w4 H4 G4
                refine hK.out _ _ ((H4.out.bel.cell (p := ⟨wr.heap.size, 0, none⟩) HZ.out).trans HP9.out) (fun _ => ?_)
                clear hK K
                refine wpAnyH_ready (rs := [7]) (by kernel_rfl) (by simp) ?_
                refine AllReadyH.cons rfl (fun K hK => ?_) AllReadyH.nil
                go_simp
                have M7 := Hid.mk (H4.out.alloc (.cells #[.int .i64 pi] 3))
                refine hK.out _ _ ((M7.out.bel.cell (p := ⟨wr.heap.size, 0, none⟩) HZ.out).trans HP9.out) (fun _ => ?_)
                clear hK K
                have hn : (w4.alloc (.cells #[.int .i64 pi] 3)).heap[w4.heap.size]? = some (.cells #[.int .i64 pi] 3 (0, 0)) := heap_new _ _
                refine wpAnyH_ready (rs := [8]) (by kernel_rfl) (by simp) ?_
                refine AllReadyH.cons rfl (fun K hK => ?_) AllReadyH.nil
                refine step_app M7 (by rfl) _ _ (by rfl) i0 hi hz0 hz1 hz2 (by rfl) (some ⟨w4.heap.size, 0, none⟩) 1 1 [.int .i64 pi] (by rfl) (fun e => by cases e) rfl (fun q e => by cases e; exact World.news_of_block hn) (by simp [Value.oneCell']) (by omega) ?_
                intro v8 w8 H8 G8
                refine hK.out _ _ ((H8.out.bel.cell (p := ⟨wr.heap.size, 0, none⟩) HZ.out).trans HP9.out) (fun _ => ?_)
                clear hK K
                refine wpAnyH_ready (rs := [12]) (by kernel_rfl) (by simp) ?_
                refine AllReadyH.cons rfl (fun K hK => ?_) AllReadyH.nil
                refine step_app H8 (by rfl) _ _ (by rfl) i0 hi hz0 hz1 hz2 (by rfl) none 0 0 [] (by rfl) (fun _ => ⟨rfl, rfl⟩) rfl (fun q e => by cases e) (fun _ e => by cases e) (by omega) ?_
                intro v12 w12 H12 G12
                refine hK.out _ _ ((H12.out.bel.cell (p := ⟨wr.heap.size, 0, none⟩) HZ.out).trans HP9.out) (fun _ => ?_)
                clear hK K
                refine wpAnyH_ready (rs := [13]) (by kernel_rfl) (by simp) ?_
                refine AllReadyH.cons rfl (fun K hK => ?_) AllReadyH.nil
                go_simp
                refine hK.out _ _ ((H12.out.bel.cell (p := ⟨wr.heap.size, 0, none⟩) HZ.out).trans HP9.out) (fun _ => ?_)
                clear hK K
                refine wpAnyH_done (by kernel_rfl) ?_ _
                clear hHeld hn
                refine NoPanic.normal ?_
                go_wp2
                go_roundw
                case rel => exact ⟨j + 1, by omega, by go_num, Hid.mk (HFIN.out _ _ _ H12.out), Hid.mk (HBW9.out.trans (H12.out.bel.mono HBZ.out)), Hid.mk (fun h => absurd h HFN.out)⟩
                case measure => simp [intOf]; omega
              · refine AllReadyH.cons rfl (fun K hK => ?_) AllReadyH.nil
                go_simp
                have M7 := Hid.mk ((Mid.start W9 W9 (Below.refl _ _)).alloc (.cells #[.int .i64 pi] 3)).drew
                refine hK.out _ _ ((M7.out.bel.cell (p := ⟨wr.heap.size, 0, none⟩) HZ.out).trans HP9.out) (fun _ => ?_)
                clear hK K
                refine wpAnyH_ready (rs := [4]) (by kernel_rfl) (by simp) ?_
                refine AllReadyH.cons rfl (fun K hK => ?_) AllReadyH.nil
                refine step_app M7 (by rfl) _ _ (by rfl) i0 hi hz0 hz1 hz2 (by rfl) none 0 0 [] (by rfl) (fun _ => ⟨rfl, rfl⟩) rfl (fun q e => by cases e) (fun _ e => by cases e) (by omega) ?_
                intro v4 w4 H4 G4
                refine hK.out _ _ ((H4.out.bel.cell (p := ⟨wr.heap.size, 0, none⟩) HZ.out).trans HP9.out) (fun _ => ?_)
                clear hK K
                have hn : w4.heap[W9.heap.size + 1]? = some (.cells #[.int .i64 pi] 3 (0, 0)) := (G4.block (W9.heap.size + 1) (by simp) (fun e => by have := Option.some.inj e; simp at this)).trans (by
                  have h := heap_new (W9.alloc (.cells #[] 3)) (.cells #[.int .i64 pi] 3)
                  rw [World.size_alloc] at h
                  exact h)
                refine wpAnyH_ready (rs := [8]) (by kernel_rfl) (by simp) ?_
                refine AllReadyH.cons rfl (fun K hK => ?_) AllReadyH.nil
                refine step_app H4 (by rfl) _ _ (by rfl) i0 hi hz0 hz1 hz2 (by rfl) (some ⟨W9.heap.size + 1, 0, none⟩) 1 1 [.int .i64 pi] (by rfl) (fun e => by cases e) rfl (fun q e => by cases e; exact World.news_of_block hn) (by simp [Value.oneCell']) (by omega) ?_
                intro v8 w8 H8 G8
                refine hK.out _ _ ((H8.out.bel.cell (p := ⟨wr.heap.size, 0, none⟩) HZ.out).trans HP9.out) (fun _ => ?_)
                clear hK K
                refine wpAnyH_ready (rs := [12]) (by kernel_rfl) (by simp) ?_
                refine AllReadyH.cons rfl (fun K hK => ?_) AllReadyH.nil
                refine step_app H8 (by rfl) _ _ (by rfl) i0 hi hz0 hz1 hz2 (by rfl) none 0 0 [] (by rfl) (fun _ => ⟨rfl, rfl⟩) rfl (fun q e => by cases e) (fun _ e => by cases e) (by omega) ?_
                intro v12 w12 H12 G12
                refine hK.out _ _ ((H12.out.bel.cell (p := ⟨wr.heap.size, 0, none⟩) HZ.out).trans HP9.out) (fun _ => ?_)
                clear hK K
                refine wpAnyH_ready (rs := [13]) (by kernel_rfl) (by simp) ?_
                refine AllReadyH.cons rfl (fun K hK => ?_) AllReadyH.nil
                go_simp
                refine hK.out _ _ ((H12.out.bel.cell (p := ⟨wr.heap.size, 0, none⟩) HZ.out).trans HP9.out) (fun _ => ?_)
                clear hK K
                refine wpAnyH_done (by kernel_rfl) ?_ _
                clear hHeld hn
                refine NoPanic.normal ?_
                go_wp2
                go_roundw
                case rel => exact ⟨j + 1, by omega, by go_num, Hid.mk (HFIN.out _ _ _ H12.out), Hid.mk (HBW9.out.trans (H12.out.bel.mono HBZ.out)), Hid.mk (fun h => absurd h HFN.out)⟩
                case measure => simp [intOf]; omega
            · refine AllReadyH.cons rfl (fun K hK => ?_) AllReadyH.nil
              go_simp
              have MP : Hid (Below W9.heap.size W9 (W9.alloc (.cells #[.int .i64 pi] 3))) := Hid.mk ((Below.refl _ _).alloc (Nat.le_refl _) _)
              refine hK.out _ _ ((MP.out.cell (p := ⟨wr.heap.size, 0, none⟩) HZ.out).trans HP9.out) (fun _ => ?_)
              clear hK K
              refine wpAnyH_ready (rs := [0]) (by kernel_rfl) (by simp) ?_
              refine AllReadyH.cons rfl (fun K hK => ?_) AllReadyH.nil
              go_simp
              have M0 : Hid (Mid W9.heap.size W9 (.slice (some ⟨W9.heap.size + 1, 0, none⟩) 0 0) 0 [] (((W9.alloc (.cells #[.int .i64 pi] 3)).alloc (.cells #[] 3)).drew)) := Hid.mk (by
                have h := (Mid.start W9 (W9.alloc (.cells #[.int .i64 pi] 3)) MP.out).drew
                rw [World.size_alloc] at h
                exact h)
              refine hK.out _ _ ((M0.out.bel.cell (p := ⟨wr.heap.size, 0, none⟩) HZ.out).trans HP9.out) (fun _ => ?_)
              clear hK K
              refine wpAnyH_ready (rs := [4]) (by kernel_rfl) (by simp) ?_
              refine AllReadyH.cons rfl (fun K hK => ?_) AllReadyH.nil
              refine step_app M0 (by rfl) _ _ (by rfl) i0 hi hz0 hz1 hz2 (by rfl) none 0 0 [] (by rfl) (fun _ => ⟨rfl, rfl⟩) rfl (fun q e => by cases e) (fun _ e => by cases e) (by omega) ?_
              intro v4 w4 H4 G4
              refine hK.out _ _ ((H4.out.bel.cell (p := ⟨wr.heap.size, 0, none⟩) HZ.out).trans HP9.out) (fun _ => ?_)
              clear hK K
              have hn : w4.heap[W9.heap.size]? = some (.cells #[.int .i64 pi] 3 (0, 0)) := (G4.block W9.heap.size (by simp; omega) (fun e => by have := Option.some.inj e; simp at this)).trans ((Below.heap_alloc _ _ _ (by simp)).trans (heap_new W9 (.cells #[.int .i64 pi] 3)))
              refine wpAnyH_ready (rs := [8]) (by kernel_rfl) (by simp) ?_
              refine AllReadyH.cons rfl (fun K hK => ?_) AllReadyH.nil
              refine step_app H4 (by rfl) _ _ (by rfl) i0 hi hz0 hz1 hz2 (by rfl) (some ⟨W9.heap.size, 0, none⟩) 1 1 [.int .i64 pi] (by rfl) (fun e => by cases e) rfl (fun q e => by cases e; exact World.news_of_block hn) (by simp [Value.oneCell']) (by omega) ?_
              intro v8 w8 H8 G8
              refine hK.out _ _ ((H8.out.bel.cell (p := ⟨wr.heap.size, 0, none⟩) HZ.out).trans HP9.out) (fun _ => ?_)
              clear hK K
              refine wpAnyH_ready (rs := [12]) (by kernel_rfl) (by simp) ?_
              refine AllReadyH.cons rfl (fun K hK => ?_) AllReadyH.nil
              refine step_app H8 (by rfl) _ _ (by rfl) i0 hi hz0 hz1 hz2 (by rfl) none 0 0 [] (by rfl) (fun _ => ⟨rfl, rfl⟩) rfl (fun q e => by cases e) (fun _ e => by cases e) (by omega) ?_
              intro v12 w12 H12 G12
              refine hK.out _ _ ((H12.out.bel.cell (p := ⟨wr.heap.size, 0, none⟩) HZ.out).trans HP9.out) (fun _ => ?_)
              clear hK K
              refine wpAnyH_ready (rs := [13]) (by kernel_rfl) (by simp) ?_
              refine AllReadyH.cons rfl (fun K hK => ?_) AllReadyH.nil
              go_simp
              refine hK.out _ _ ((H12.out.bel.cell (p := ⟨wr.heap.size, 0, none⟩) HZ.out).trans HP9.out) (fun _ => ?_)
              clear hK K
              refine wpAnyH_done (by kernel_rfl) ?_ _
              clear hHeld hn
              refine NoPanic.normal ?_
              go_wp2
              go_roundw
              case rel => exact ⟨j + 1, by omega, by go_num, Hid.mk (HFIN.out _ _ _ H12.out), Hid.mk (HBW9.out.trans (H12.out.bel.mono HBZ.out)), Hid.mk (fun h => absurd h HFN.out)⟩
              case measure => simp [intOf]; omega
          · injection e with e1 _ e3
            subst e1 e3
            have hg2 : g2 < wr.heap.size := (HO.out.lt g2 rfl).2
            have hkc : k ≤ vc := hnc
            have HS : Hid (insN NJ pi = NJ.take k ++ [pi]) := Hid.mk (by rw [ins_no HNK.out HUP.out HNN.out, HDK.out])
            by_cases hvc : vc = k
            · have hvc2 := hvc.symm
              subst hvc2
              go_quiet (fail)
              go_wp2_with fail
              have hB9 : Below wr.heap.size wr ((wr.alloc (.cells #[.int .i64 pi, .int .i64 pv] 29)).drewN (n + nq1 + nq)) := ((Below.refl _ _).alloc (Nat.le_refl _) _).trans ⟨rfl, rfl, rfl, Nat.le_refl _, fun _ _ => rfl⟩
              have hp9 : ((wr.alloc (.cells #[.int .i64 pi, .int .i64 pv] 29)).drewN (n + nq1 + nq)).cell? ⟨wr.heap.size, 0, none⟩ = some (.int .i64 pi) := cell_at (heap_new wr _) rfl
              obtain ⟨W9, hW9⟩ : ∃ z, z = ((wr.alloc (.cells #[.int .i64 pi, .int .i64 pv] 29)).drewN (n + nq1 + nq)) := ⟨_, rfl⟩
              rw [← hW9] at hB9 hp9 ⊢
              have hs9 : W9.heap.size = wr.heap.size + 1 := by rw [hW9]; simp
              clear hW9
              have HB9 := Hid.mk hB9
              have HP9 := Hid.mk hp9
              have HS9 := Hid.mk hs9
              have HZ : Hid (wr.heap.size < W9.heap.size) := Hid.mk (by omega)
              have HT1 : Hid ((nuC (NJ.take k)).length = k) := Hid.mk (by rw [nuC_length, List.length_take]; have := HLN.out; omega)
              have HU1 := Hid.mk (nuC_one (NJ.take k))
              have HCC : Hid (∀ wx, Below W9.heap.size W9 wx → ∀ j u, (nuC NJ)[j]? = some u → wx.cell? ⟨g2, j, none⟩ = some u) := Hid.mk (fun wx hx j u hu => by
                have e1 := HO.out.cells (g := g2) rfl j u hu
                rw [addP] at e1
                have hlt2 : g2 < wr.heap.size := hg2
                exact (hx.cell (p := ⟨g2, j, none⟩) (by have := HZ.out; show g2 < _; omega)).trans ((HB9.out.cell (p := ⟨g2, j, none⟩) hlt2).trans e1))
              have HC1 : Hid (∀ wx, Below W9.heap.size W9 wx → ∀ j u, (nuC (NJ.take k))[j]? = some u → wx.cell? ((⟨g2, 0, none⟩ : Addr).add j) = some u) := Hid.mk (fun wx hx j u hu => by
                rw [add_plain, Nat.zero_add]
                refine HCC.out wx hx j u ?_
                simp only [nuC, List.map_take, List.getElem?_take] at hu ⊢
                split at hu
                · exact hu
                · cases hu)
              have HFIN : Hid (∀ v m (wx : World), Mid W9.heap.size W9 v m ((([] ++ nuC (NJ.take k)) ++ [.int .i64 pi]) ++ []) wx → wx.ownsRow B 3 1 v (nums (l.take (j + 1))).length (nuC (nums (l.take (j + 1))))) := Hid.mk (fun v m wx hm => by
                rw [HNT.out, HS.out]
                have e : (([] ++ nuC (NJ.take k)) ++ [.int .i64 pi]) ++ [] = nuC (NJ.take k ++ [pi]) := by simp [nuC]
                have h1 := hm.own
                rw [e] at h1
                have hl : m = (NJ.take k ++ [pi]).length := by have := h1.1; rw [nuC_length] at this; omega
                rw [hl] at h1
                exact owns_base h1 (by have := HZ.out; omega))
              have HFN : Hid (¬ (nums (l.take (j + 1))).length = 0) := Hid.mk (by rw [HNT.out, HS.out]; simp)
              have HBZ : Hid (B ≤ W9.heap.size) := Hid.mk (by omega)
              have HBW9 : Hid (Below B w W9) := Hid.mk (hBl.out.trans (HB9.out.mono hBsz))
              clear hB9 hp9 hs9 c0 c1
              refine wp_region_held_drew (S := fun wx => wx.cell? ⟨wr.heap.size, 0, none⟩ = some (.int .i64 pi)) (by kernel_rfl) HP9.out (fun hHeld => ?_)
              refine wpAnyH_take (i := 1) (v := ?_) rfl (by kernel_rfl) (by kernel_rfl) (by kernel_rfl) (fun _ _ _ h => h) (Or.inl ⟨by rfl, ?h1⟩) (by assumption) ?_
              case h1 =>
                intro wx hSw
                try dsimp only at hSw
                go_simp
                try with_reducible rfl
              refine wpAnyH_take (i := 2) (v := ?_) rfl (by kernel_rfl) (by kernel_rfl) (by kernel_rfl) (fun _ _ _ h => h) (Or.inl ⟨by rfl, ?h2⟩) (by assumption) ?_
              case h2 =>
                intro wx hSw
                try dsimp only at hSw
                go_simp
                try with_reducible rfl
              refine wpAnyH_take (i := 3) (v := ?_) rfl (by kernel_rfl) (by kernel_rfl) (by kernel_rfl) (fun _ _ _ h => h) (Or.inl ⟨by rfl, ?h3⟩) (by assumption) ?_
              case h3 =>
                intro wx hSw
                try dsimp only at hSw
                go_simp
                try with_reducible rfl
              refine wpAnyH_take (i := 9) (v := ?_) rfl (by kernel_rfl) (by kernel_rfl) (by kernel_rfl) (fun _ _ _ h => h) (Or.inl ⟨by rfl, ?h9⟩) (by assumption) ?_
              case h9 =>
                intro wx hSw
                try dsimp only at hSw
                go_simp
                try with_reducible rfl
              refine wpAnyH_take (i := 10) (v := ?_) rfl (by kernel_rfl) (by kernel_rfl) (by kernel_rfl) (fun _ _ _ h => h) (Or.inl ⟨by rfl, ?h10⟩) (by assumption) ?_
              case h10 =>
                intro wx hSw
                try dsimp only at hSw
                go_simp
                try with_reducible rfl
              refine wpAnyH_take (i := 11) (v := ?_) rfl (by kernel_rfl) (by kernel_rfl) (by kernel_rfl) (fun _ _ _ h => h) (Or.inl ⟨by rfl, ?h11⟩) (by assumption) ?_
              case h11 =>
                intro wx hSw
                try dsimp only at hSw
                go_simp
                try with_reducible rfl
              refine wpAnyH_take (i := 5) (v := ?_) rfl (by kernel_rfl) (by kernel_rfl) (by kernel_rfl) (fun _ _ _ h => h) (Or.inl ⟨by rfl, ?h5⟩) (by assumption) ?_
              case h5 =>
                intro wx hSw
                try dsimp only at hSw
                go_simp
                try with_reducible rfl
              refine wpAnyH_take (i := 6) (v := ?_) rfl (by kernel_rfl) (by kernel_rfl) (by kernel_rfl) (fun _ _ _ h => h) (Or.inl ⟨by rfl, ?h6⟩) (by assumption) ?_
              case h6 =>
                intro wx hSw
                try dsimp only at hSw
                go_simp
                try with_reducible rfl
              refine wpAnyH_ready (rs := [0, 7]) (by kernel_rfl) (by simp) ?_
              refine AllReadyH.cons rfl (fun K hK => ?_) ?_
              · go_simp
                have M0 := Hid.mk (Mid.start W9 W9 (Below.refl _ _)).drew
                refine hK.out _ _ ((M0.out.bel.cell (p := ⟨wr.heap.size, 0, none⟩) HZ.out).trans HP9.out) (fun _ => ?_)
                clear hK K
                refine wpAnyH_ready (rs := [4, 7]) (by kernel_rfl) (by simp) ?_
                refine AllReadyH.cons rfl (fun K hK => ?_) ?_
                · refine step_app M0 (by rfl) _ _ (by rfl) i0 hi hz0 hz1 hz2 (by rfl) (some ⟨g2, 0, none⟩) k k (nuC (NJ.take k)) (by rfl) (fun e => by cases e) HT1.out (fun q e => by cases e; exact HC1.out _ M0.out.bel) HU1.out (by omega) ?_
                  intro v4 w4 H4 G4
                  refine hK.out _ _ ((H4.out.bel.cell (p := ⟨wr.heap.size, 0, none⟩) HZ.out).trans HP9.out) (fun _ => ?_)
                  clear hK K
                  refine wpAnyH_ready (rs := [7]) (by kernel_rfl) (by simp) ?_
                  refine AllReadyH.cons rfl (fun K hK => ?_) AllReadyH.nil
                  go_simp
                  have M7 := Hid.mk (H4.out.alloc (.cells #[.int .i64 pi] 3))
                  refine hK.out _ _ ((M7.out.bel.cell (p := ⟨wr.heap.size, 0, none⟩) HZ.out).trans HP9.out) (fun _ => ?_)
                  clear hK K
                  have hn : (w4.alloc (.cells #[.int .i64 pi] 3)).heap[w4.heap.size]? = some (.cells #[.int .i64 pi] 3 (0, 0)) := heap_new _ _
                  refine wpAnyH_ready (rs := [8]) (by kernel_rfl) (by simp) ?_
                  refine AllReadyH.cons rfl (fun K hK => ?_) AllReadyH.nil
                  refine step_app M7 (by rfl) _ _ (by rfl) i0 hi hz0 hz1 hz2 (by rfl) (some ⟨w4.heap.size, 0, none⟩) 1 1 [.int .i64 pi] (by rfl) (fun e => by cases e) rfl (fun q e => by cases e; exact World.news_of_block hn) (by simp [Value.oneCell']) (by omega) ?_
                  intro v8 w8 H8 G8
                  refine hK.out _ _ ((H8.out.bel.cell (p := ⟨wr.heap.size, 0, none⟩) HZ.out).trans HP9.out) (fun _ => ?_)
                  clear hK K
                  refine wpAnyH_ready (rs := [12]) (by kernel_rfl) (by simp) ?_
                  refine AllReadyH.cons rfl (fun K hK => ?_) AllReadyH.nil
                  refine step_app H8 (by rfl) _ _ (by rfl) i0 hi hz0 hz1 hz2 (by rfl) (some ⟨g2, 0, none⟩) 0 0 [] (by rfl) (fun e => by cases e) rfl (fun q e j u hu => by simp at hu) (fun _ e => by cases e) (by omega) ?_
                  intro v12 w12 H12 G12
                  refine hK.out _ _ ((H12.out.bel.cell (p := ⟨wr.heap.size, 0, none⟩) HZ.out).trans HP9.out) (fun _ => ?_)
                  clear hK K
                  refine wpAnyH_ready (rs := [13]) (by kernel_rfl) (by simp) ?_
                  refine AllReadyH.cons rfl (fun K hK => ?_) AllReadyH.nil
                  go_simp
                  refine hK.out _ _ ((H12.out.bel.cell (p := ⟨wr.heap.size, 0, none⟩) HZ.out).trans HP9.out) (fun _ => ?_)
                  clear hK K
                  refine wpAnyH_done (by kernel_rfl) ?_ _
                  clear hHeld hn
                  refine NoPanic.normal ?_
                  go_wp2
                  go_roundw
                  case rel => exact ⟨j + 1, by omega, by go_num, Hid.mk (HFIN.out _ _ _ H12.out), Hid.mk (HBW9.out.trans (H12.out.bel.mono HBZ.out)), Hid.mk (fun h => absurd h HFN.out)⟩
                  case measure => simp [intOf]; omega
                · refine AllReadyH.cons rfl (fun K hK => ?_) AllReadyH.nil
                  go_simp
                  have M7 := Hid.mk ((Mid.start W9 W9 (Below.refl _ _)).alloc (.cells #[.int .i64 pi] 3)).drew
                  refine hK.out _ _ ((M7.out.bel.cell (p := ⟨wr.heap.size, 0, none⟩) HZ.out).trans HP9.out) (fun _ => ?_)
                  clear hK K
                  refine wpAnyH_ready (rs := [4]) (by kernel_rfl) (by simp) ?_
                  refine AllReadyH.cons rfl (fun K hK => ?_) AllReadyH.nil
                  refine step_app M7 (by rfl) _ _ (by rfl) i0 hi hz0 hz1 hz2 (by rfl) (some ⟨g2, 0, none⟩) k k (nuC (NJ.take k)) (by rfl) (fun e => by cases e) HT1.out (fun q e => by cases e; exact HC1.out _ M7.out.bel) HU1.out (by omega) ?_
                  intro v4 w4 H4 G4
                  refine hK.out _ _ ((H4.out.bel.cell (p := ⟨wr.heap.size, 0, none⟩) HZ.out).trans HP9.out) (fun _ => ?_)
                  clear hK K
                  have hn : w4.heap[W9.heap.size + 1]? = some (.cells #[.int .i64 pi] 3 (0, 0)) := (G4.block (W9.heap.size + 1) (by simp) (fun e => by have := Option.some.inj e; simp at this)).trans (by
                    have h := heap_new (W9.alloc (.cells #[] 3)) (.cells #[.int .i64 pi] 3)
                    rw [World.size_alloc] at h
                    exact h)
                  refine wpAnyH_ready (rs := [8]) (by kernel_rfl) (by simp) ?_
                  refine AllReadyH.cons rfl (fun K hK => ?_) AllReadyH.nil
                  refine step_app H4 (by rfl) _ _ (by rfl) i0 hi hz0 hz1 hz2 (by rfl) (some ⟨W9.heap.size + 1, 0, none⟩) 1 1 [.int .i64 pi] (by rfl) (fun e => by cases e) rfl (fun q e => by cases e; exact World.news_of_block hn) (by simp [Value.oneCell']) (by omega) ?_
                  intro v8 w8 H8 G8
                  refine hK.out _ _ ((H8.out.bel.cell (p := ⟨wr.heap.size, 0, none⟩) HZ.out).trans HP9.out) (fun _ => ?_)
                  clear hK K
                  refine wpAnyH_ready (rs := [12]) (by kernel_rfl) (by simp) ?_
                  refine AllReadyH.cons rfl (fun K hK => ?_) AllReadyH.nil
                  refine step_app H8 (by rfl) _ _ (by rfl) i0 hi hz0 hz1 hz2 (by rfl) (some ⟨g2, 0, none⟩) 0 0 [] (by rfl) (fun e => by cases e) rfl (fun q e j u hu => by simp at hu) (fun _ e => by cases e) (by omega) ?_
                  intro v12 w12 H12 G12
                  refine hK.out _ _ ((H12.out.bel.cell (p := ⟨wr.heap.size, 0, none⟩) HZ.out).trans HP9.out) (fun _ => ?_)
                  clear hK K
                  refine wpAnyH_ready (rs := [13]) (by kernel_rfl) (by simp) ?_
                  refine AllReadyH.cons rfl (fun K hK => ?_) AllReadyH.nil
                  go_simp
                  refine hK.out _ _ ((H12.out.bel.cell (p := ⟨wr.heap.size, 0, none⟩) HZ.out).trans HP9.out) (fun _ => ?_)
                  clear hK K
                  refine wpAnyH_done (by kernel_rfl) ?_ _
                  clear hHeld hn
                  refine NoPanic.normal ?_
                  go_wp2
                  go_roundw
                  case rel => exact ⟨j + 1, by omega, by go_num, Hid.mk (HFIN.out _ _ _ H12.out), Hid.mk (HBW9.out.trans (H12.out.bel.mono HBZ.out)), Hid.mk (fun h => absurd h HFN.out)⟩
                  case measure => simp [intOf]; omega
              · refine AllReadyH.cons rfl (fun K hK => ?_) AllReadyH.nil
                go_simp
                have MP : Hid (Below W9.heap.size W9 (W9.alloc (.cells #[.int .i64 pi] 3))) := Hid.mk ((Below.refl _ _).alloc (Nat.le_refl _) _)
                refine hK.out _ _ ((MP.out.cell (p := ⟨wr.heap.size, 0, none⟩) HZ.out).trans HP9.out) (fun _ => ?_)
                clear hK K
                refine wpAnyH_ready (rs := [0]) (by kernel_rfl) (by simp) ?_
                refine AllReadyH.cons rfl (fun K hK => ?_) AllReadyH.nil
                go_simp
                have M0 : Hid (Mid W9.heap.size W9 (.slice (some ⟨W9.heap.size + 1, 0, none⟩) 0 0) 0 [] (((W9.alloc (.cells #[.int .i64 pi] 3)).alloc (.cells #[] 3)).drew)) := Hid.mk (by
                  have h := (Mid.start W9 (W9.alloc (.cells #[.int .i64 pi] 3)) MP.out).drew
                  rw [World.size_alloc] at h
                  exact h)
                refine hK.out _ _ ((M0.out.bel.cell (p := ⟨wr.heap.size, 0, none⟩) HZ.out).trans HP9.out) (fun _ => ?_)
                clear hK K
                refine wpAnyH_ready (rs := [4]) (by kernel_rfl) (by simp) ?_
                refine AllReadyH.cons rfl (fun K hK => ?_) AllReadyH.nil
                refine step_app M0 (by rfl) _ _ (by rfl) i0 hi hz0 hz1 hz2 (by rfl) (some ⟨g2, 0, none⟩) k k (nuC (NJ.take k)) (by rfl) (fun e => by cases e) HT1.out (fun q e => by cases e; exact HC1.out _ M0.out.bel) HU1.out (by omega) ?_
                intro v4 w4 H4 G4
                refine hK.out _ _ ((H4.out.bel.cell (p := ⟨wr.heap.size, 0, none⟩) HZ.out).trans HP9.out) (fun _ => ?_)
                clear hK K
                have hn : w4.heap[W9.heap.size]? = some (.cells #[.int .i64 pi] 3 (0, 0)) := (G4.block W9.heap.size (by simp; omega) (fun e => by have := Option.some.inj e; simp at this)).trans ((Below.heap_alloc _ _ _ (by simp)).trans (heap_new W9 (.cells #[.int .i64 pi] 3)))
                refine wpAnyH_ready (rs := [8]) (by kernel_rfl) (by simp) ?_
                refine AllReadyH.cons rfl (fun K hK => ?_) AllReadyH.nil
                refine step_app H4 (by rfl) _ _ (by rfl) i0 hi hz0 hz1 hz2 (by rfl) (some ⟨W9.heap.size, 0, none⟩) 1 1 [.int .i64 pi] (by rfl) (fun e => by cases e) rfl (fun q e => by cases e; exact World.news_of_block hn) (by simp [Value.oneCell']) (by omega) ?_
                intro v8 w8 H8 G8
                refine hK.out _ _ ((H8.out.bel.cell (p := ⟨wr.heap.size, 0, none⟩) HZ.out).trans HP9.out) (fun _ => ?_)
                clear hK K
                refine wpAnyH_ready (rs := [12]) (by kernel_rfl) (by simp) ?_
                refine AllReadyH.cons rfl (fun K hK => ?_) AllReadyH.nil
                refine step_app H8 (by rfl) _ _ (by rfl) i0 hi hz0 hz1 hz2 (by rfl) (some ⟨g2, 0, none⟩) 0 0 [] (by rfl) (fun e => by cases e) rfl (fun q e j u hu => by simp at hu) (fun _ e => by cases e) (by omega) ?_
                intro v12 w12 H12 G12
                refine hK.out _ _ ((H12.out.bel.cell (p := ⟨wr.heap.size, 0, none⟩) HZ.out).trans HP9.out) (fun _ => ?_)
                clear hK K
                refine wpAnyH_ready (rs := [13]) (by kernel_rfl) (by simp) ?_
                refine AllReadyH.cons rfl (fun K hK => ?_) AllReadyH.nil
                go_simp
                refine hK.out _ _ ((H12.out.bel.cell (p := ⟨wr.heap.size, 0, none⟩) HZ.out).trans HP9.out) (fun _ => ?_)
                clear hK K
                refine wpAnyH_done (by kernel_rfl) ?_ _
                clear hHeld hn
                refine NoPanic.normal ?_
                go_wp2
                go_roundw
                case rel => exact ⟨j + 1, by omega, by go_num, Hid.mk (HFIN.out _ _ _ H12.out), Hid.mk (HBW9.out.trans (H12.out.bel.mono HBZ.out)), Hid.mk (fun h => absurd h HFN.out)⟩
                case measure => simp [intOf]; omega
            · go_quiet (fail)
              go_wp2_with fail
              have hB9 : Below wr.heap.size wr ((wr.alloc (.cells #[.int .i64 pi, .int .i64 pv] 29)).drewN (n + nq1 + nq)) := ((Below.refl _ _).alloc (Nat.le_refl _) _).trans ⟨rfl, rfl, rfl, Nat.le_refl _, fun _ _ => rfl⟩
              have hp9 : ((wr.alloc (.cells #[.int .i64 pi, .int .i64 pv] 29)).drewN (n + nq1 + nq)).cell? ⟨wr.heap.size, 0, none⟩ = some (.int .i64 pi) := cell_at (heap_new wr _) rfl
              obtain ⟨W9, hW9⟩ : ∃ z, z = ((wr.alloc (.cells #[.int .i64 pi, .int .i64 pv] 29)).drewN (n + nq1 + nq)) := ⟨_, rfl⟩
              rw [← hW9] at hB9 hp9 ⊢
              have hs9 : W9.heap.size = wr.heap.size + 1 := by rw [hW9]; simp
              clear hW9
              have HB9 := Hid.mk hB9
              have HP9 := Hid.mk hp9
              have HS9 := Hid.mk hs9
              have HZ : Hid (wr.heap.size < W9.heap.size) := Hid.mk (by omega)
              have HT1 : Hid ((nuC (NJ.take k)).length = k) := Hid.mk (by rw [nuC_length, List.length_take]; have := HLN.out; omega)
              have HU1 := Hid.mk (nuC_one (NJ.take k))
              have HCC : Hid (∀ wx, Below W9.heap.size W9 wx → ∀ j u, (nuC NJ)[j]? = some u → wx.cell? ⟨g2, j, none⟩ = some u) := Hid.mk (fun wx hx j u hu => by
                have e1 := HO.out.cells (g := g2) rfl j u hu
                rw [addP] at e1
                have hlt2 : g2 < wr.heap.size := hg2
                exact (hx.cell (p := ⟨g2, j, none⟩) (by have := HZ.out; show g2 < _; omega)).trans ((HB9.out.cell (p := ⟨g2, j, none⟩) hlt2).trans e1))
              have HC1 : Hid (∀ wx, Below W9.heap.size W9 wx → ∀ j u, (nuC (NJ.take k))[j]? = some u → wx.cell? ((⟨g2, 0, none⟩ : Addr).add j) = some u) := Hid.mk (fun wx hx j u hu => by
                rw [add_plain, Nat.zero_add]
                refine HCC.out wx hx j u ?_
                simp only [nuC, List.map_take, List.getElem?_take] at hu ⊢
                split at hu
                · exact hu
                · cases hu)
              have HFIN : Hid (∀ v m (wx : World), Mid W9.heap.size W9 v m ((([] ++ nuC (NJ.take k)) ++ [.int .i64 pi]) ++ []) wx → wx.ownsRow B 3 1 v (nums (l.take (j + 1))).length (nuC (nums (l.take (j + 1))))) := Hid.mk (fun v m wx hm => by
                rw [HNT.out, HS.out]
                have e : (([] ++ nuC (NJ.take k)) ++ [.int .i64 pi]) ++ [] = nuC (NJ.take k ++ [pi]) := by simp [nuC]
                have h1 := hm.own
                rw [e] at h1
                have hl : m = (NJ.take k ++ [pi]).length := by have := h1.1; rw [nuC_length] at this; omega
                rw [hl] at h1
                exact owns_base h1 (by have := HZ.out; omega))
              have HFN : Hid (¬ (nums (l.take (j + 1))).length = 0) := Hid.mk (by rw [HNT.out, HS.out]; simp)
              have HBZ : Hid (B ≤ W9.heap.size) := Hid.mk (by omega)
              have HBW9 : Hid (Below B w W9) := Hid.mk (hBl.out.trans (HB9.out.mono hBsz))
              clear hB9 hp9 hs9 c0 c1
              refine wp_region_held_drew (S := fun wx => wx.cell? ⟨wr.heap.size, 0, none⟩ = some (.int .i64 pi)) (by kernel_rfl) HP9.out (fun hHeld => ?_)
              refine wpAnyH_take (i := 1) (v := ?_) rfl (by kernel_rfl) (by kernel_rfl) (by kernel_rfl) (fun _ _ _ h => h) (Or.inl ⟨by rfl, ?h1⟩) (by assumption) ?_
              case h1 =>
                intro wx hSw
                try dsimp only at hSw
                go_simp
                try with_reducible rfl
              refine wpAnyH_take (i := 2) (v := ?_) rfl (by kernel_rfl) (by kernel_rfl) (by kernel_rfl) (fun _ _ _ h => h) (Or.inl ⟨by rfl, ?h2⟩) (by assumption) ?_
              case h2 =>
                intro wx hSw
                try dsimp only at hSw
                go_simp
                try with_reducible rfl
              refine wpAnyH_take (i := 3) (v := ?_) rfl (by kernel_rfl) (by kernel_rfl) (by kernel_rfl) (fun _ _ _ h => h) (Or.inl ⟨by rfl, ?h3⟩) (by assumption) ?_
              case h3 =>
                intro wx hSw
                try dsimp only at hSw
                go_simp
                try with_reducible rfl
              refine wpAnyH_take (i := 9) (v := ?_) rfl (by kernel_rfl) (by kernel_rfl) (by kernel_rfl) (fun _ _ _ h => h) (Or.inl ⟨by rfl, ?h9⟩) (by assumption) ?_
              case h9 =>
                intro wx hSw
                try dsimp only at hSw
                go_simp
                try with_reducible rfl
              refine wpAnyH_take (i := 10) (v := ?_) rfl (by kernel_rfl) (by kernel_rfl) (by kernel_rfl) (fun _ _ _ h => h) (Or.inl ⟨by rfl, ?h10⟩) (by assumption) ?_
              case h10 =>
                intro wx hSw
                try dsimp only at hSw
                go_simp
                try with_reducible rfl
              refine wpAnyH_take (i := 11) (v := ?_) rfl (by kernel_rfl) (by kernel_rfl) (by kernel_rfl) (fun _ _ _ h => h) (Or.inl ⟨by rfl, ?h11⟩) (by assumption) ?_
              case h11 =>
                intro wx hSw
                try dsimp only at hSw
                go_simp
                try with_reducible rfl
              refine wpAnyH_take (i := 5) (v := ?_) rfl (by kernel_rfl) (by kernel_rfl) (by kernel_rfl) (fun _ _ _ h => h) (Or.inl ⟨by rfl, ?h5⟩) (by assumption) ?_
              case h5 =>
                intro wx hSw
                try dsimp only at hSw
                go_simp
                try with_reducible rfl
              refine wpAnyH_take (i := 6) (v := ?_) rfl (by kernel_rfl) (by kernel_rfl) (by kernel_rfl) (fun _ _ _ h => h) (Or.inl ⟨by rfl, ?h6⟩) (by assumption) ?_
              case h6 =>
                intro wx hSw
                try dsimp only at hSw
                go_simp
                try with_reducible rfl
              refine wpAnyH_ready (rs := [0, 7]) (by kernel_rfl) (by simp) ?_
              refine AllReadyH.cons rfl (fun K hK => ?_) ?_
              · go_simp
                have M0 := Hid.mk (Mid.start W9 W9 (Below.refl _ _)).drew
                refine hK.out _ _ ((M0.out.bel.cell (p := ⟨wr.heap.size, 0, none⟩) HZ.out).trans HP9.out) (fun _ => ?_)
                clear hK K
                refine wpAnyH_ready (rs := [4, 7]) (by kernel_rfl) (by simp) ?_
                refine AllReadyH.cons rfl (fun K hK => ?_) ?_
                · refine step_app M0 (by rfl) _ _ (by rfl) i0 hi hz0 hz1 hz2 (by rfl) (some ⟨g2, 0, none⟩) k vc (nuC (NJ.take k)) (by rfl) (fun e => by cases e) HT1.out (fun q e => by cases e; exact HC1.out _ M0.out.bel) HU1.out (by omega) ?_
                  intro v4 w4 H4 G4
                  refine hK.out _ _ ((H4.out.bel.cell (p := ⟨wr.heap.size, 0, none⟩) HZ.out).trans HP9.out) (fun _ => ?_)
                  clear hK K
                  refine wpAnyH_ready (rs := [7]) (by kernel_rfl) (by simp) ?_
                  refine AllReadyH.cons rfl (fun K hK => ?_) AllReadyH.nil
                  go_simp
                  have M7 := Hid.mk (H4.out.alloc (.cells #[.int .i64 pi] 3))
                  refine hK.out _ _ ((M7.out.bel.cell (p := ⟨wr.heap.size, 0, none⟩) HZ.out).trans HP9.out) (fun _ => ?_)
                  clear hK K
                  have hn : (w4.alloc (.cells #[.int .i64 pi] 3)).heap[w4.heap.size]? = some (.cells #[.int .i64 pi] 3 (0, 0)) := heap_new _ _
                  refine wpAnyH_ready (rs := [8]) (by kernel_rfl) (by simp) ?_
                  refine AllReadyH.cons rfl (fun K hK => ?_) AllReadyH.nil
                  refine step_app M7 (by rfl) _ _ (by rfl) i0 hi hz0 hz1 hz2 (by rfl) (some ⟨w4.heap.size, 0, none⟩) 1 1 [.int .i64 pi] (by rfl) (fun e => by cases e) rfl (fun q e => by cases e; exact World.news_of_block hn) (by simp [Value.oneCell']) (by omega) ?_
                  intro v8 w8 H8 G8
                  refine hK.out _ _ ((H8.out.bel.cell (p := ⟨wr.heap.size, 0, none⟩) HZ.out).trans HP9.out) (fun _ => ?_)
                  clear hK K
                  refine wpAnyH_ready (rs := [12]) (by kernel_rfl) (by simp) ?_
                  refine AllReadyH.cons rfl (fun K hK => ?_) AllReadyH.nil
                  refine step_app H8 (by rfl) _ _ (by rfl) i0 hi hz0 hz1 hz2 (by rfl) (some ⟨g2, k, none⟩) 0 (vc - k) [] (by rfl) (fun e => by cases e) rfl (fun q e j u hu => by simp at hu) (fun _ e => by cases e) (by omega) ?_
                  intro v12 w12 H12 G12
                  refine hK.out _ _ ((H12.out.bel.cell (p := ⟨wr.heap.size, 0, none⟩) HZ.out).trans HP9.out) (fun _ => ?_)
                  clear hK K
                  refine wpAnyH_ready (rs := [13]) (by kernel_rfl) (by simp) ?_
                  refine AllReadyH.cons rfl (fun K hK => ?_) AllReadyH.nil
                  go_simp
                  refine hK.out _ _ ((H12.out.bel.cell (p := ⟨wr.heap.size, 0, none⟩) HZ.out).trans HP9.out) (fun _ => ?_)
                  clear hK K
                  refine wpAnyH_done (by kernel_rfl) ?_ _
                  clear hHeld hn
                  refine NoPanic.normal ?_
                  go_wp2
                  go_roundw
                  case rel => exact ⟨j + 1, by omega, by go_num, Hid.mk (HFIN.out _ _ _ H12.out), Hid.mk (HBW9.out.trans (H12.out.bel.mono HBZ.out)), Hid.mk (fun h => absurd h HFN.out)⟩
                  case measure => simp [intOf]; omega
                · refine AllReadyH.cons rfl (fun K hK => ?_) AllReadyH.nil
                  go_simp
                  have M7 := Hid.mk ((Mid.start W9 W9 (Below.refl _ _)).alloc (.cells #[.int .i64 pi] 3)).drew
                  refine hK.out _ _ ((M7.out.bel.cell (p := ⟨wr.heap.size, 0, none⟩) HZ.out).trans HP9.out) (fun _ => ?_)
                  clear hK K
                  refine wpAnyH_ready (rs := [4]) (by kernel_rfl) (by simp) ?_
                  refine AllReadyH.cons rfl (fun K hK => ?_) AllReadyH.nil
                  refine step_app M7 (by rfl) _ _ (by rfl) i0 hi hz0 hz1 hz2 (by rfl) (some ⟨g2, 0, none⟩) k vc (nuC (NJ.take k)) (by rfl) (fun e => by cases e) HT1.out (fun q e => by cases e; exact HC1.out _ M7.out.bel) HU1.out (by omega) ?_
                  intro v4 w4 H4 G4
                  refine hK.out _ _ ((H4.out.bel.cell (p := ⟨wr.heap.size, 0, none⟩) HZ.out).trans HP9.out) (fun _ => ?_)
                  clear hK K
                  have hn : w4.heap[W9.heap.size + 1]? = some (.cells #[.int .i64 pi] 3 (0, 0)) := (G4.block (W9.heap.size + 1) (by simp) (fun e => by have := Option.some.inj e; simp at this)).trans (by
                    have h := heap_new (W9.alloc (.cells #[] 3)) (.cells #[.int .i64 pi] 3)
                    rw [World.size_alloc] at h
                    exact h)
                  refine wpAnyH_ready (rs := [8]) (by kernel_rfl) (by simp) ?_
                  refine AllReadyH.cons rfl (fun K hK => ?_) AllReadyH.nil
                  refine step_app H4 (by rfl) _ _ (by rfl) i0 hi hz0 hz1 hz2 (by rfl) (some ⟨W9.heap.size + 1, 0, none⟩) 1 1 [.int .i64 pi] (by rfl) (fun e => by cases e) rfl (fun q e => by cases e; exact World.news_of_block hn) (by simp [Value.oneCell']) (by omega) ?_
                  intro v8 w8 H8 G8
                  refine hK.out _ _ ((H8.out.bel.cell (p := ⟨wr.heap.size, 0, none⟩) HZ.out).trans HP9.out) (fun _ => ?_)
                  clear hK K
                  refine wpAnyH_ready (rs := [12]) (by kernel_rfl) (by simp) ?_
                  refine AllReadyH.cons rfl (fun K hK => ?_) AllReadyH.nil
                  refine step_app H8 (by rfl) _ _ (by rfl) i0 hi hz0 hz1 hz2 (by rfl) (some ⟨g2, k, none⟩) 0 (vc - k) [] (by rfl) (fun e => by cases e) rfl (fun q e j u hu => by simp at hu) (fun _ e => by cases e) (by omega) ?_
                  intro v12 w12 H12 G12
                  refine hK.out _ _ ((H12.out.bel.cell (p := ⟨wr.heap.size, 0, none⟩) HZ.out).trans HP9.out) (fun _ => ?_)
                  clear hK K
                  refine wpAnyH_ready (rs := [13]) (by kernel_rfl) (by simp) ?_
                  refine AllReadyH.cons rfl (fun K hK => ?_) AllReadyH.nil
                  go_simp
                  refine hK.out _ _ ((H12.out.bel.cell (p := ⟨wr.heap.size, 0, none⟩) HZ.out).trans HP9.out) (fun _ => ?_)
                  clear hK K
                  refine wpAnyH_done (by kernel_rfl) ?_ _
                  clear hHeld hn
                  refine NoPanic.normal ?_
                  go_wp2
                  go_roundw
                  case rel => exact ⟨j + 1, by omega, by go_num, Hid.mk (HFIN.out _ _ _ H12.out), Hid.mk (HBW9.out.trans (H12.out.bel.mono HBZ.out)), Hid.mk (fun h => absurd h HFN.out)⟩
                  case measure => simp [intOf]; omega
              · refine AllReadyH.cons rfl (fun K hK => ?_) AllReadyH.nil
                go_simp
                have MP : Hid (Below W9.heap.size W9 (W9.alloc (.cells #[.int .i64 pi] 3))) := Hid.mk ((Below.refl _ _).alloc (Nat.le_refl _) _)
                refine hK.out _ _ ((MP.out.cell (p := ⟨wr.heap.size, 0, none⟩) HZ.out).trans HP9.out) (fun _ => ?_)
                clear hK K
                refine wpAnyH_ready (rs := [0]) (by kernel_rfl) (by simp) ?_
                refine AllReadyH.cons rfl (fun K hK => ?_) AllReadyH.nil
                go_simp
                have M0 : Hid (Mid W9.heap.size W9 (.slice (some ⟨W9.heap.size + 1, 0, none⟩) 0 0) 0 [] (((W9.alloc (.cells #[.int .i64 pi] 3)).alloc (.cells #[] 3)).drew)) := Hid.mk (by
                  have h := (Mid.start W9 (W9.alloc (.cells #[.int .i64 pi] 3)) MP.out).drew
                  rw [World.size_alloc] at h
                  exact h)
                refine hK.out _ _ ((M0.out.bel.cell (p := ⟨wr.heap.size, 0, none⟩) HZ.out).trans HP9.out) (fun _ => ?_)
                clear hK K
                refine wpAnyH_ready (rs := [4]) (by kernel_rfl) (by simp) ?_
                refine AllReadyH.cons rfl (fun K hK => ?_) AllReadyH.nil
                refine step_app M0 (by rfl) _ _ (by rfl) i0 hi hz0 hz1 hz2 (by rfl) (some ⟨g2, 0, none⟩) k vc (nuC (NJ.take k)) (by rfl) (fun e => by cases e) HT1.out (fun q e => by cases e; exact HC1.out _ M0.out.bel) HU1.out (by omega) ?_
                intro v4 w4 H4 G4
                refine hK.out _ _ ((H4.out.bel.cell (p := ⟨wr.heap.size, 0, none⟩) HZ.out).trans HP9.out) (fun _ => ?_)
                clear hK K
                have hn : w4.heap[W9.heap.size]? = some (.cells #[.int .i64 pi] 3 (0, 0)) := (G4.block W9.heap.size (by simp; omega) (fun e => by have := Option.some.inj e; simp at this)).trans ((Below.heap_alloc _ _ _ (by simp)).trans (heap_new W9 (.cells #[.int .i64 pi] 3)))
                refine wpAnyH_ready (rs := [8]) (by kernel_rfl) (by simp) ?_
                refine AllReadyH.cons rfl (fun K hK => ?_) AllReadyH.nil
                refine step_app H4 (by rfl) _ _ (by rfl) i0 hi hz0 hz1 hz2 (by rfl) (some ⟨W9.heap.size, 0, none⟩) 1 1 [.int .i64 pi] (by rfl) (fun e => by cases e) rfl (fun q e => by cases e; exact World.news_of_block hn) (by simp [Value.oneCell']) (by omega) ?_
                intro v8 w8 H8 G8
                refine hK.out _ _ ((H8.out.bel.cell (p := ⟨wr.heap.size, 0, none⟩) HZ.out).trans HP9.out) (fun _ => ?_)
                clear hK K
                refine wpAnyH_ready (rs := [12]) (by kernel_rfl) (by simp) ?_
                refine AllReadyH.cons rfl (fun K hK => ?_) AllReadyH.nil
                refine step_app H8 (by rfl) _ _ (by rfl) i0 hi hz0 hz1 hz2 (by rfl) (some ⟨g2, k, none⟩) 0 (vc - k) [] (by rfl) (fun e => by cases e) rfl (fun q e j u hu => by simp at hu) (fun _ e => by cases e) (by omega) ?_
                intro v12 w12 H12 G12
                refine hK.out _ _ ((H12.out.bel.cell (p := ⟨wr.heap.size, 0, none⟩) HZ.out).trans HP9.out) (fun _ => ?_)
                clear hK K
                refine wpAnyH_ready (rs := [13]) (by kernel_rfl) (by simp) ?_
                refine AllReadyH.cons rfl (fun K hK => ?_) AllReadyH.nil
                go_simp
                refine hK.out _ _ ((H12.out.bel.cell (p := ⟨wr.heap.size, 0, none⟩) HZ.out).trans HP9.out) (fun _ => ?_)
                clear hK K
                refine wpAnyH_done (by kernel_rfl) ?_ _
                clear hHeld hn
                refine NoPanic.normal ?_
                go_wp2
                go_roundw
                case rel => exact ⟨j + 1, by omega, by go_num, Hid.mk (HFIN.out _ _ _ H12.out), Hid.mk (HBW9.out.trans (H12.out.bel.mono HBZ.out)), Hid.mk (fun h => absurd h HFN.out)⟩
                case measure => simp [intOf]; omega
    · have HN : Hid (l.take j = l) := Hid.mk (by rw [show j = l.length by have := HL.out; omega, List.take_length])
      have hle : (len : Int) ≤ (j : Int) := by omega
      go_wp2
      go_ret
      rw [HN.out] at hO
      exact ⟨⟨_, rfl, hO.out⟩, hBl.out⟩

end Go.Proofs.Ytocdnlnhjfigjaa.Dft
