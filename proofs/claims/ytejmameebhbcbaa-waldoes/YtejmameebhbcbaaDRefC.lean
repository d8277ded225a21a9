/-
  The walk of the document's Crash.
-/
import Derived.Deep.QuietTactic
import Derived.Test.YtejmameebhbcbaaDRefB
namespace Go.Proofs.Ytejmameebhbcbaa
open Go.RowKit

/-- 'append(own, changes...)', at a step of a region that draws its order. -/
theorem step_append_chs {ops : Array Oper} {o : Oper} {a : Act} {w : World} {K : Act → World → Prop} {Q : Exit → Act → World → Prop} {E : Prop} (hgd : o.guard = none) (s x : Operand)
    (ho : o.op = .call { callee := .builtin .append, args := #[s, x], argTypes := #[49, 49] }) (base : Nat)
    (v : Value) (n : Nat) (xs : List Value) (hs : a.eval s = v) (hown : w.ownsRow base 80 3 v n xs) (hv : v ≠ .slice none 0 0)
    (ad : Addr) (m c : Nat) (l : List Ch) (hx : a.eval x = .slice (some ad) m c) (hl : l.length = m) (hnews : ∀ j u, (chC l)[j]? = some u → w.cell? (ad.add j) = some u)
    (hn : n + m ≤ 10000000) (hbase : base ≤ w.heap.size)
    (h : ∀ g cap w', w'.ownsRow base 80 3 (.slice (some ⟨g, 0, none⟩) (n + m) cap) (n + m) (xs ++ chC l) → w.grownBy w' v.ownBlock → K (a.put o.dst (.slice (some ⟨g, 0, none⟩) (n + m) cap)) w') :
    if Region.wanted o (yielded ops a.tmps) = true then Oper.wp Try.prog o a w K Q else E := by
  have hw : Region.wanted o (yielded ops a.tmps) = true := by simp [Region.wanted, hgd]
  rw [if_pos hw]
  obtain ⟨i0, hi, hz0, hz1, hz2⟩ := info_parts Try.info80
  refine wp_append_own w s x 49 ho base 80 i0 _ 3 32 Try.underlying49 hi hz0 hz1 hz2 rfl (by decide) v n xs hs hown ad m c (chC l) hx (by rw [chC_length, hl]) hnews (chC_one l) (by unfold maxLen; omega) (by omega) hbase fun v' w' h2 h3 h4 => ?_
  rcases h2.2 with ⟨e, _⟩ | ⟨g, cap, cur, rfl, _⟩
  · exact absurd (h4.1 e).1 hv
  · exact h g cap w' h2 h3

/-- The same where nothing is appended. -/
theorem step_append_none {ops : Array Oper} {o : Oper} {a : Act} {w : World} {K : Act → World → Prop} {Q : Exit → Act → World → Prop} {E : Prop} (hgd : o.guard = none) (s x : Operand)
    (ho : o.op = .call { callee := .builtin .append, args := #[s, x], argTypes := #[49, 49] }) (base : Nat)
    (v : Value) (n : Nat) (xs : List Value) (hs : a.eval s = v) (hown : w.ownsRow base 80 3 v n xs) (hx : a.eval x = .slice none 0 0) (h : K (a.put o.dst v) w) :
    if Region.wanted o (yielded ops a.tmps) = true then Oper.wp Try.prog o a w K Q else E := by
  have hw : Region.wanted o (yielded ops a.tmps) = true := by simp [Region.wanted, hgd]
  rw [if_pos hw]
  obtain ⟨i0, hi, hz0, hz1, hz2⟩ := info_parts Try.info80
  have hrun := run_append_owned_none (P := Try.prog) (w := w) base 49 o.type 80 i0 3 Try.underlying49 hi v n xs hown
  unfold Oper.wp
  simp [execOp, ho, resolve, invoke, builtin, hs, hx, hrun, Result.andThen]
  exact h

theorem ownsRow_same {w w' : World} {base e size : Nat} {v : Value} {n : Nat} {xs : List Value} (h : w.ownsRow base e size v n xs) (he : w'.heap = w.heap) : w'.ownsRow base e size v n xs := by
  unfold World.ownsRow at h ⊢
  rw [he]
  exact h

theorem cell_past2 {w : World} {a : Addr} {o : Obj} {v : Value} (h : w.cell? a = some v) : (w.alloc o).drew.drew.cell? a = some v := by
  simp only [World.cell?_drew]
  exact cell_past h

theorem cell_past1 {w : World} {a : Addr} {o : Obj} {v : Value} (h : w.cell? a = some v) : (w.alloc o).drew.cell? a = some v := by
  simp only [World.cell?_drew]
  exact cell_past h

/-- A beginning of the row, to be appended. -/
theorem Ref.news {w w' : World} {m g n cap sf : Nat} {all : List Ch} (h : Ref w m (.slice (some ⟨g, 0, none⟩) n cap) all sf) (q : Nat) (hg : w'.heap[g]? = w.heap[g]?) :
    ∀ j u, (chC (all.take q))[j]? = some u → w'.cell? ((⟨g, 0, none⟩ : Addr).add j) = some u := by
  intro j u hu
  have hn : n = all.length := by
    rcases h.owns.2 with ⟨e, _⟩ | ⟨g', cap', cur, e, _⟩
    · cases e
    · simp at e; exact e.2.1
  subst hn
  have e : chC all = chC (all.take q) ++ chC (all.drop q) := by rw [← chC_append, List.take_append_drop]
  have hu' : (chC all)[j]? = some u := by
    rw [e, List.getElem?_append_left (List.getElem?_eq_some_iff.1 hu).1]
    exact hu
  have hc := h.owns.cells (g := g) rfl j u hu'
  have hadd : (⟨g, 0, none⟩ : Addr).add j = ⟨g, j, none⟩ := by unfold Addr.add; split <;> simp_all
  rw [hadd] at hc ⊢
  rw [World.cell?_of_block (w := w) hg]
  exact hc

/-- Another row, laid anew, and stored; all of it is safe. -/
theorem Ref.laid2 {w w2 : World} {m g n cap sf : Nat} {v : Value} {all all' : List Ch} (h : Ref w m v all sf) (hown : w2.ownsRow w.heap.size 80 3 (.slice (some ⟨g, 0, none⟩) n cap) n (chC all')) (hn : n = all'.length) (hb : Below w.heap.size w w2) :
    Ref ((w2.setCell ⟨m, 0, none⟩ (.slice (some ⟨g, 0, none⟩) n cap)).setCell ⟨m, 1, none⟩ (.int .i64 (n : Nat))) m (.slice (some ⟨g, 0, none⟩) n cap) all' all'.length ∧
      Wrote m v w (.slice (some ⟨g, 0, none⟩) n cap) ((w2.setCell ⟨m, 0, none⟩ (.slice (some ⟨g, 0, none⟩) n cap)).setCell ⟨m, 1, none⟩ (.int .i64 (n : Nat))) := by
  subst hn
  have hg := (hown.lt g rfl).1
  have hlt := h.lt
  have hgm : g ≠ m := by omega
  have hb2 : w2.heap[m]? = some (.cells #[v, .int .i64 (sf : Nat)] 51 (0, 0)) := by rw [hb.block m hlt]; exact h.at_
  refine ⟨⟨?_, by simp [Value.ownBlock, hgm], ?_, Nat.le_refl _⟩, ?_⟩
  · rw [heap_set _ (heap_set _ hb2)]; simp
  · exact ownsRow_carry (ownsRow_low hown) fun k hk => by
      simp [Value.ownBlock] at hk
      subst hk
      rw [Below.heap_setCell _ _ _ _ hgm, Below.heap_setCell _ _ _ _ hgm]
  · exact (((Wrote.of_below hb).set 0 _).set 1 _).turn fun k hk => by
      simp [Value.ownBlock] at hk
      subst hk
      exact .inr hg

theorem take_mid (dn ws : List Ch) (k : Nat) : (dn ++ ws).take (dn.length + k) = dn ++ ws.take k := by
  rw [List.take_append, List.take_of_length_le (by omega), Nat.add_sub_cancel_left]

/-- A number from 0 to another one, as the walk reckons it. -/
theorem near_ifs (n : Int) (most : Nat) : ∃ M : Int, (if n < 0 then 0 else n) = M ∧ (if (most : Int) < M then (most : Int) else M) = ((near n most : Nat) : Int) := by
  refine ⟨_, rfl, ?_⟩
  unfold near
  split <;> split <;> omega

set_option maxHeartbeats 3200000 in
set_option maxRecDepth 100000 in
theorem refCrash_some {w : World} {m g cap : Nat} {dn ws : List Ch} (h : Ref w m (.slice (some ⟨g, 0, none⟩) (dn.length + ws.length) cap) (dn ++ ws) dn.length) (hl : (dn ++ ws).length ≤ 1000000) (k p : Int) :
    Calls Try.prog 42 #[.pointer (some ⟨m, 0, none⟩), .int .i64 k, .int .i64 p] w fun e w' => e = .returned (.tuple #[]) ∧
      ∃ v', Ref w' m v' (dn ++ kept ws k p) (dn ++ kept ws k p).length ∧ Wrote m (.slice (some ⟨g, 0, none⟩) (dn.length + ws.length) cap) w v' w' := by
  have c0 := h.c0
  have c1 := h.c1
  have f0 := h.fz 0
  have f1 := h.fz 1
  have hlt := h.lt
  have hcap : dn.length + ws.length ≤ cap := by
    rcases h.owns.2 with ⟨e, _⟩ | ⟨g', cap', cur, e, _, _, r, _⟩
    · cases e
    · simp at e
      obtain ⟨_, rfl⟩ := e
      simpa using r
  have hgl := h.own_lt g rfl
  have H := Hid.mk h
  obtain ⟨SF, hSF⟩ : ∃ SF, SF = dn.length := ⟨_, rfl⟩
  obtain ⟨L, hL⟩ : ∃ L, L = ws.length := ⟨_, rfl⟩
  rw [List.length_append, ← hSF, ← hL] at hl
  rw [← hSF, ← hL] at c0 hcap
  rw [← hSF] at c1
  obtain ⟨K, hK⟩ : ∃ K, K = near k L := ⟨_, rfl⟩
  obtain ⟨M, m1, m2⟩ := near_ifs k L
  rw [← hK] at m2
  have hKL : K ≤ L := by rw [hK]; exact near_le _ _
  have HSF := Hid.mk hSF
  have HL := Hid.mk hL
  have HK := Hid.mk hK
  have b0 : (0 : Int) ≤ (SF : Int) := Int.natCast_nonneg _
  have b1 : (SF : Int) ≤ ((SF + L : Nat) : Int) := by omega
  have b2 : ((SF + L : Nat) : Int) ≤ (cap : Int) := by omega
  obtain ⟨O, hO⟩ : ∃ O, O = (if cap = SF then 0 else SF * 3) := ⟨_, rfl⟩
  have o1 : (if cap = SF then (some ⟨g, 0, none⟩ : Option Addr) else some ⟨g, SF * 3, none⟩) = some ⟨g, O, none⟩ := by
    rw [hO]
    split <;> rfl
  have HO := Hid.mk (fun (e : SF < cap) => show O = SF * 3 by rw [hO, if_neg (by omega)])
  obtain ⟨Q, hQ⟩ : ∃ Q, Q = SF + K := ⟨_, rfl⟩
  have w1 : IntKind.i64.wrap ((SF : Int) + (K : Int)) = (Q : Int) := by
    rw [hQ]
    simp [IntKind.wrap, IntKind.bits, IntKind.signed]
    omega
  have b3 : (0 : Int) ≤ (Q : Int) := Int.natCast_nonneg _
  have b4 : (Q : Int) ≤ (cap : Int) := by omega
  have hQl : Q ≤ 1000000 := by omega
  have HQ := Hid.mk hQ
  have hQn : ((dn ++ ws).take Q).length = Q := by
    rw [List.length_take, List.length_append, ← hSF, ← hL]
    omega
  have HQn := Hid.mk hQn
  have nn0 := World.new_ne w _ c0
  clear hSF hL hK h hO hQ hQn
  go_enter Try.func42, Try.ntmps42
  go_wp2_with fail
  go_region
  go_wp2_with fail
  go_region_held3 (fun wx => wx.cell? ⟨m, 0, none⟩ = some (.slice (some ⟨g, 0, none⟩) (SF + L) cap) ∧ wx.cell? ⟨m, 1, none⟩ = some (.int .i64 SF))
    (first
      | exact ⟨c0, c1⟩
      | exact ⟨cell_past2 c0, cell_past2 c1⟩
      | exact ⟨(hgr.cell_far ⟨m, 0, none⟩ (by simp; omega) (by simp [Value.ownBlock]; omega)).trans (cell_past2 c0), (hgr.cell_far ⟨m, 1, none⟩ (by simp; omega) (by simp [Value.ownBlock]; omega)).trans (cell_past2 c1)⟩)
    ((refine step_append_chs (by rfl) _ _ (by rfl) w.heap.size (.slice (some ⟨w.heap.size, 0, none⟩) 0 0) 0 [] (by rfl) (ownsRow_same (World.ownsRow_made w #[] 0 (Nat.le_refl _) (Nat.zero_le _) rfl) rfl) (by simp) ⟨g, 0, none⟩ Q cap ((dn ++ ws).take Q) (by rfl) HQn.out (H.out.news Q (Below.heap_alloc _ _ _ hgl)) (by omega) (by simp) ?_; intro g1 cap1 wa hown1 hgr))
  have hba : Below w.heap.size w wa := ((((Below.refl w.heap.size w).alloc (Nat.le_refl _) (.cells #[] 80)).drew).drew).grown hgr (by show w.heap.size ≤ (w.alloc _).heap.size; simp) (fun k hk => by simp [Value.ownBlock] at hk; omega)
  have hown : wa.ownsRow w.heap.size 80 3 (.slice (some ⟨g1, 0, none⟩) Q cap1) Q (chC (dn ++ ws.take K)) := by
    rw [Nat.zero_add, List.nil_append] at hown1
    have e := take_mid dn ws K
    rw [← HSF.out, ← HQ.out] at e
    rw [← e]
    exact hown1
  have hlen : Q = (dn ++ ws.take K).length := by
    rw [List.length_append, List.length_take, ← HSF.out, ← HL.out, HQ.out]
    omega
  have d0 := (hba.cell (p := ⟨m, 0, none⟩) hlt).trans c0
  have d1 := (hba.cell (p := ⟨m, 1, none⟩) hlt).trans c1
  have g0 := (hba.frozen (p := ⟨m, 0, none⟩) hlt).trans f0
  have g2 := (hba.frozen (p := ⟨m, 1, none⟩) hlt).trans f1
  have HOW := Hid.mk hown
  have HBA := Hid.mk hba
  have HLE := Hid.mk hlen
  clear hown1 hgr hown hba hlen c0 c1 f0 f1
  by_cases hKL2 : K < L
  · have hKw : K < ws.length := by rw [← HL.out]; exact hKL2
    have hO2 : O = SF * 3 := HO.out (by omega)
    have hidx : SF + K < (dn ++ ws).length := by rw [List.length_append, ← HSF.out]; omega
    obtain ⟨x0, x1, x2⟩ := H.out.at_ch (SF + K) hidx
    have hget : (dn ++ ws)[SF + K] = ws[K] := by
      rw [List.getElem_append_right (by rw [← HSF.out]; omega)]
      congr 1
      rw [← HSF.out]
      omega
    have hadr : (SF + K) * 3 = O + K * 3 := by rw [hO2]; omega
    rw [hget, hadr] at x0 x1 x2
    have y0 := (HBA.out.cell (p := ⟨g, O + K * 3, none⟩) hgl).trans x0
    have y1 := (HBA.out.cell (p := ⟨g, O + K * 3 + 1, none⟩) hgl).trans x1
    have y2 := (HBA.out.cell (p := ⟨g, O + K * 3 + 2, none⟩) hgl).trans x2
    have i0 : (0 : Int) ≤ (K : Int) := Int.natCast_nonneg _
    have i1 : (K : Int) < (L : Int) := by omega
    have HKL : K = near k ws.length := by rw [← HL.out]; exact HK.out
    clear x0 x1 x2 hget hadr hO2 hidx
    cases hr : ws[K].reset with
    | true =>
      rw [hr] at y1
      have e1 := kept_reset (p := p) HKL hKw hr
      have HE := Hid.mk e1
      clear e1 hr y0 y2 HKL
      go_wp2
      go_end0
      rw [HE.out]
      exact ⟨rfl, _, H.out.laid2 HOW.out HLE.out HBA.out⟩
    | false =>
      rw [hr] at y1
      have e1 := kept_torn (p := p) HKL hKw hr
      obtain ⟨c, hc⟩ : ∃ c, c = ws[K] := ⟨_, rfl⟩
      rw [← hc] at y0 y2 e1
      obtain ⟨o, r, bs⟩ := c
      dsimp only at y0 y2 e1
      obtain ⟨P, hP⟩ : ∃ P, P = near p bs.size := ⟨_, rfl⟩
      obtain ⟨M2, n1, n2⟩ := near_ifs p bs.size
      rw [← hP] at n2 e1
      have hPb : P ≤ bs.size := by rw [hP]; exact near_le _ _
      have j0 : (0 : Int) ≤ (P : Int) := Int.natCast_nonneg _
      have j1 : (P : Int) ≤ (bs.size : Int) := by omega
      have HE := Hid.mk e1
      clear hr hc hP e1 HKL
      have hg1 := (HOW.out.lt g1 rfl).1
      have hg1l := (HOW.out.lt g1 rfl).2
      have hgs : g < wa.heap.size := Nat.lt_of_lt_of_le hgl HBA.out.size
      have hsz := HBA.out.size
      go_wp2_with fail
      go_region_held3 (fun wx => wx.cell? ⟨g, O + K * 3, none⟩ = some (.int .i64 (ar o)) ∧ wx.cell? ⟨g, O + K * 3 + 2, none⟩ = some (.string bs))
        (first
          | exact ⟨y0, y2⟩
          | exact ⟨cell_past1 y0, cell_past1 y2⟩
          | exact ⟨(hgr2.cell_far ⟨g, O + K * 3, none⟩ (by simp; omega) (by simp [Value.ownBlock]; omega)).trans (cell_past1 y0), (hgr2.cell_far ⟨g, O + K * 3 + 2, none⟩ (by simp; omega) (by simp [Value.ownBlock]; omega)).trans (cell_past1 y2)⟩)
        ((refine step_append_chs (by rfl) _ _ (by rfl) w.heap.size (.slice (some ⟨g1, 0, none⟩) Q cap1) Q (chC (dn ++ ws.take K)) (by rfl) (ownsRow_same (HOW.out.alloc (.cells #[.int .i64 (ar o), .bool false, .string (bs.extract 0 P)] 80)) rfl) (by simp) ⟨wa.heap.size, 0, none⟩ 1 1 [⟨o, false, bs.extract 0 P⟩] (by rfl) (by rfl) (World.news_of_block (cs := #[.int .i64 (ar o), .bool false, .string (bs.extract 0 P)]) (t := 80) (fr := (0, 0)) (heap_alloc_new wa _)) (by omega) (by simp; omega) ?_; intro g3 cap3 wb hown3 hgr2))
      have hbb : Below w.heap.size w wb := (((HBA.out.alloc hsz (.cells #[.int .i64 (ar o), .bool false, .string (bs.extract 0 P)] 80))).drew).grown hgr2 (by show w.heap.size ≤ (wa.alloc _).heap.size; simp; omega) (fun k hk => by simp [Value.ownBlock] at hk; omega)
      have e0 := (hbb.cell (p := ⟨m, 0, none⟩) hlt).trans H.out.c0
      have e1 := (hbb.cell (p := ⟨m, 1, none⟩) hlt).trans H.out.c1
      have h0 := (hbb.frozen (p := ⟨m, 0, none⟩) hlt).trans (H.out.fz 0)
      have h1 := (hbb.frozen (p := ⟨m, 1, none⟩) hlt).trans (H.out.fz 1)
      have hown4 : wb.ownsRow w.heap.size 80 3 (.slice (some ⟨g3, 0, none⟩) (Q + 1) cap3) (Q + 1) (chC (dn ++ (ws.take K ++ [⟨o, false, bs.extract 0 P⟩]))) := by
        rw [← List.append_assoc, chC_append]
        exact hown3
      have hlen4 : Q + 1 = (dn ++ (ws.take K ++ [(⟨o, false, bs.extract 0 P⟩ : Ch)])).length := by
        have := HLE.out
        rw [List.length_append] at this
        simp only [List.length_append, List.length_cons, List.length_nil]
        omega
      have HR := Hid.mk (H.out.laid2 hown4 hlen4 hbb)
      clear hown3 hgr2 hbb hown4 hlen4 y0 y1 y2 d0 d1 g0 g2
      go_wp2
      go_end0
      rw [HE.out]
      exact ⟨rfl, _, HR.out⟩
  · have hKe : K = L := by omega
    have e1 : kept ws k p = ws := kept_all (by rw [← HL.out, ← HK.out, hKe])
    have e2 : ws.take K = ws := List.take_of_length_le (by rw [← HL.out]; omega)
    have HE := Hid.mk e1
    have HE2 := Hid.mk e2
    clear e1 e2
    go_wp2
    go_end0
    rw [HE.out]
    have hh := H.out.laid2 HOW.out HLE.out HBA.out
    rw [HE2.out] at hh
    exact ⟨rfl, _, hh⟩

set_option maxHeartbeats 800000 in
theorem refCrash_nil {w : World} {m : Nat} (h : Ref w m (.slice none 0 0) [] 0) (k p : Int) :
    Calls Try.prog 42 #[.pointer (some ⟨m, 0, none⟩), .int .i64 k, .int .i64 p] w fun e w' => e = .returned (.tuple #[]) ∧
      ∃ v', Ref w' m v' [] 0 ∧ Wrote m (.slice none 0 0) w v' w' := by
  have c0 := h.c0
  have c1 := h.c1
  have f0 := h.fz 0
  have f1 := h.fz 1
  have hlt := h.lt
  obtain ⟨M, m1, m2⟩ := near_ifs k 0
  have e0 : near k 0 = 0 := by unfold near; omega
  rw [e0] at m2
  have m3 : (if (0 : Int) < M then (0 : Int) else M) = 0 := by simpa using m2
  have H := Hid.mk h
  have wz : IntKind.i64.wrap 0 = 0 := by decide
  clear h e0 m2
  go_enter Try.func42, Try.ntmps42
  go_wp2_with fail
  go_region
  go_wp2_with fail
  have hmade := World.ownsRow_made (base := w.heap.size) (e := 80) (size := 3) w #[] 0 (Nat.le_refl _) (Nat.zero_le _) rfl
  go_region_held3 (fun wx => wx.cell? ⟨m, 0, none⟩ = some (.slice none 0 0) ∧ wx.cell? ⟨m, 1, none⟩ = some (.int .i64 0))
    (first
      | exact ⟨c0, c1⟩
      | exact ⟨cell_past2 c0, cell_past2 c1⟩)
    ((refine step_append_none (by rfl) _ _ (by rfl) w.heap.size (.slice (some ⟨w.heap.size, 0, none⟩) 0 0) 0 [] (by rfl) (ownsRow_same hmade rfl) (by rfl) ?_))
  have hb2 : Below w.heap.size w (w.alloc (.cells #[] 80)).drew.drew := ((((Below.refl w.heap.size w).alloc (Nat.le_refl _) (.cells #[] 80)).drew).drew)
  have hR := H.out.laid2 (all' := []) (w2 := (w.alloc (.cells #[] 80)).drew.drew) (ownsRow_same hmade rfl) rfl hb2
  obtain ⟨W2, hW2⟩ : ∃ W2, W2 = (w.alloc (.cells #[] 80)).drew.drew := ⟨_, rfl⟩
  rw [← hW2] at hR hb2 ⊢
  have d0 := (hb2.cell (p := ⟨m, 0, none⟩) hlt).trans c0
  have d1 := (hb2.cell (p := ⟨m, 1, none⟩) hlt).trans c1
  have g0 := (hb2.frozen (p := ⟨m, 0, none⟩) hlt).trans f0
  have g2 := (hb2.frozen (p := ⟨m, 1, none⟩) hlt).trans f1
  have HR := Hid.mk hR
  clear hmade hR hb2 hW2 c0 c1 f0 f1
  go_wp2
  go_end0
  exact ⟨rfl, _, HR.out⟩

theorem refCrash_any {w : World} {m : Nat} {v : Value} {dn ws : List Ch} (h : Ref w m v (dn ++ ws) dn.length) (hl : (dn ++ ws).length ≤ 1000000) (k p : Int) :
    Calls Try.prog 42 #[.pointer (some ⟨m, 0, none⟩), .int .i64 k, .int .i64 p] w fun e w' => e = .returned (.tuple #[]) ∧
      ∃ v', Ref w' m v' (dn ++ kept ws k p) (dn ++ kept ws k p).length ∧ Wrote m v w v' w' := by
  rcases h.owns.2 with ⟨rfl, h0⟩ | ⟨g, cap, cur, rfl, _⟩
  · have e : dn ++ ws = [] := List.length_eq_zero_iff.1 h0
    obtain ⟨rfl, rfl⟩ := List.append_eq_nil_iff.1 e
    have e1 : kept [] k p = [] := kept_all (by unfold near; simp)
    rw [e1]
    exact refCrash_nil h k p
  · have e : (dn ++ ws).length = dn.length + ws.length := List.length_append
    rw [e] at h
    have hs := refCrash_some h hl k p
    rw [← e] at hs
    exact hs

end Go.Proofs.Ytejmameebhbcbaa
