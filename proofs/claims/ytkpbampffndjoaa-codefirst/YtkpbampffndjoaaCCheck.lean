/-
  The walk of Check.
-/
import Derived.Test.YtkpbampffndjoaaCFits
import Derived.Test.YtkpbampffndjoaaCRow
namespace Go.Proofs.Ytkpbampffndjoaa
open Go.RowKit

/-- Of the first blocks all but b are as they were; in b lies what was seen of a block. -/
structure Fb (W : World) (b e : Nat) (s : Bool) (z : World) : Prop where
  os : z.os = W.os
  tape : z.tape = W.tape
  output : z.output = W.output
  size : W.heap.size ≤ z.heap.size
  block : ∀ k, k < W.heap.size → k ≠ b → z.heap[k]? = W.heap[k]?
  blk : Blk z b e s

theorem Fb.grown {W z z2 : World} {b e : Nat} {s : Bool} (h : Fb W b e s z) (hb : Below z.heap.size z z2) : Fb W b e s z2 :=
  ⟨hb.os.trans h.os, hb.tape.trans h.tape, hb.output.trans h.output, Nat.le_trans h.size hb.size, fun k hk hn => (hb.block k (Nat.lt_of_lt_of_le hk h.size)).trans (h.block k hk hn), h.blk.grown hb⟩

theorem Fb.only {W z z2 : World} {b e e2 : Nat} {s s2 : Bool} (h : Fb W b e s z) (ho : Only b z z2) (hk : Blk z2 b e2 s2) : Fb W b e2 s2 z2 :=
  ⟨ho.os.trans h.os, ho.tape.trans h.tape, ho.output.trans h.output, by rw [ho.size]; exact h.size, fun k hk hn => (ho.block k hn).trans (h.block k hk hn), hk⟩

theorem Fb.below {W z : World} {b e B : Nat} {s : Bool} (h : Fb W b e s z) (hB : B ≤ b) (hW : B ≤ W.heap.size) : Below B W z :=
  ⟨h.os, h.tape, h.output, h.size, fun k hk => h.block k (by omega) (by omega)⟩

theorem Fb.cell {W z : World} {b e g j : Nat} {s : Bool} {v : Value} (h : Fb W b e s z) (hc : W.cell? ⟨g, j, none⟩ = some v) (hg : g ≠ b) : z.cell? ⟨g, j, none⟩ = some v :=
  (World.cell?_of_block (w := W) (h.block g (World.block_lt_of_cell? W ⟨g, j, none⟩ hc) hg)).trans hc

set_option maxRecDepth 100000 in
theorem Fb.drew {W z : World} {b e : Nat} {s : Bool} (h : Fb W b e s z) : Fb W b e s z.drew := h.grown (Below.refl _ _).drew

/-- The state of Check's loop. -/
structure Ck (w wr : World) (g b : Nat) (ps : List Ins) (k : Nat) : Prop where
  below : Below w.heap.size w wr
  hg : w.heap.size ≤ g
  hb : w.heap.size ≤ b
  ne : g ≠ b
  row : Row wr g ps
  blk : Blk wr b (elB ps k) (suB ps k)
  all : allB ps k = true

/-- All that a round of Check asks. -/
structure Con (W : World) (X g b k L : Nat) (x : Ins) (N e : Nat) (s V f1 f2 f3 f4 : Bool) : Prop where
  S : ∀ z {e s}, Fb W b e s z → z.cell? ⟨X, 0, none⟩ = some (.int .i64 x.op) ∧ z.cell? ⟨X, 1, none⟩ = some (.int .i64 x.a) ∧ z.cell? ⟨X, 2, none⟩ = some (.int .i64 x.b) ∧ z.cell? ⟨X, 3, none⟩ = some (.int .i64 x.c) ∧ z.cell? ⟨g, k, none⟩ = some (.int .i64 (N : Nat))
  fits : ∀ z, Fb W b e s z → Calls Try.prog 16 #[.agg #[.int .i64 x.op, .int .i64 x.a, .int .i64 x.b, .int .i64 x.c]] z fun r z2 => r = .returned (.bool f1) ∧ Fb W b e s z2
  stands : ∀ z, Fb W b e s z → Calls Try.prog 17 #[.int .i64 x.op, .bool V] z fun r z2 => r = .returned (.bool f2) ∧ Fb W b e s z2
  lets : ∀ z, Fb W b e s z → Calls Try.prog 18 #[.pointer (some ⟨b, 0, none⟩), .int .i64 x.op] z fun r z2 => r = .returned (.bool f3) ∧ Fb W b (nextE e x.op) (nextS s x.op) z2
  leads : ∀ z, Fb W b (nextE e x.op) (nextS s x.op) z → Calls Try.prog 19 #[.int .i64 k, .agg #[.int .i64 x.op, .int .i64 x.a, .int .i64 x.b, .int .i64 x.c], .slice (some ⟨g, 0, none⟩) L L] z fun r z2 => r = .returned (.bool f4) ∧ Fb W b (nextE e x.op) (nextS s x.op) z2

theorem cell_past {w : World} {a : Addr} {o : Obj} {v : Value} (h : w.cell? a = some v) : (w.alloc o).cell? a = some v :=
  (World.cell?_alloc_some w a o (by rw [h]; rfl)).trans h

theorem heap_alloc_at (w : World) (o : Obj) : (w.alloc o).heap[w.heap.size]? = some o := heap_alloc_new w o

theorem cell_in {w : World} {b i : Nat} {cs : Array Value} {t : TypeId} {m : Nat × Nat} {v : Value} (h : w.heap[b]? = some (.cells cs t m)) (hc : cs[i]? = some v) : w.cell? ⟨b, i, none⟩ = some v := by
  simp [World.cell?, h, hc]

theorem Ck.con {w wr : World} {g b k : Nat} {ps : List Ins} (M : Ck w wr g b ps k) (hk : k < ps.length) (hl : ps.length ≤ 48) (x : Ins) (N : Nat) (V : Bool) (hx : x = ps[k]!) (hN : N = inB ps k) (hV : V = decide (inB ps k ≠ 0)) (L : Nat) (hL : ps.length + 1 = L) :
    Con (wr.alloc (.cells #[.int .i64 x.op, .int .i64 x.a, .int .i64 x.b, .int .i64 x.c] 31)) wr.heap.size g b k L x N (elB ps k) (suB ps k) V (fitsB ps[k]!) (standsB ps[k]!.op (decide (inB ps k ≠ 0))) (letsB (elB ps k) (suB ps k) ps[k]!.op) (leadsB ps k ps[k]!) := by
  rw [← hx]
  have hbl := M.blk.lt
  have hgl := M.row.lt
  have hXb : wr.heap.size ≠ b := by omega
  have hat := heap_alloc_at wr (.cells #[.int .i64 x.op, .int .i64 x.a, .int .i64 x.b, .int .i64 x.c] 31)
  refine ⟨fun z e s h => ⟨h.cell ?_ hXb, h.cell ?_ hXb, h.cell ?_ hXb, h.cell ?_ hXb, h.cell ?_ M.ne⟩, fun z h => ?_, fun z h => ?_, fun z h => ?_, fun z h => ?_⟩
  · exact cell_in hat rfl
  · exact cell_in hat rfl
  · exact cell_in hat rfl
  · exact cell_in hat rfl
  · rw [hN]; exact cell_past (M.row.cell k (by omega))
  · exact (fits_any x z).mono fun r z2 ⟨h1, h2⟩ => ⟨h1, h.grown h2⟩
  · rw [hV]; exact (stands_any x.op _ z).mono fun r z2 ⟨h1, h2⟩ => ⟨h1, by rw [h2]; exact h⟩
  · exact (lets_any h.blk (by have := elB_le ps k; omega) x.op).mono fun r z2 ⟨h1, h2, h3⟩ => ⟨h1, h.only h3 h2⟩
  · have hrow : Row z g ps := ⟨Nat.lt_of_lt_of_le (Nat.lt_of_lt_of_le hgl (by simp)) h.size, fun j hj => h.cell (cell_past (M.row.cell j hj)) M.ne⟩
    rw [← hL]
    exact (leads_any hrow k hk x).mono fun r z2 ⟨h1, h2⟩ => ⟨h1, h.grown h2⟩

theorem Ck.fb {w wr : World} {g b k : Nat} {ps : List Ins} (M : Ck w wr g b ps k) (o : Obj) : Fb (wr.alloc o) b (elB ps k) (suB ps k) (wr.alloc o).drew := by
  have hbl := M.blk.lt
  exact ⟨rfl, rfl, rfl, Nat.le_refl _, fun _ _ _ => rfl, M.blk.keep (Below.heap_alloc _ _ _ hbl)⟩

theorem Ck.next {w wr z : World} {g b k : Nat} {ps : List Ins} {o : Obj} (M : Ck w wr g b ps k) (h : Fb (wr.alloc o) b (nextE (elB ps k) (opA ps k)) (nextS (suB ps k) (opA ps k)) z) (h1 : oneB ps k = true) : Ck w z g b ps (k + 1) := by
  have hgl := M.row.lt
  refine ⟨(M.below.alloc M.below.size o).trans (h.below M.hb (by have := M.below.size; simp; omega)), M.hg, M.hb, M.ne, ?_, h.blk, ?_⟩
  · exact ⟨Nat.lt_of_lt_of_le (Nat.lt_of_lt_of_le hgl (by simp)) h.size, fun j hj => h.cell (cell_past (M.row.cell j hj)) M.ne⟩
  · simp [allB, M.all, h1]

theorem Ck.out {w wr z : World} {g b k e : Nat} {s : Bool} {ps : List Ins} {o : Obj} (M : Ck w wr g b ps k) (h : Fb (wr.alloc o) b e s z) : Below w.heap.size w z :=
  (M.below.alloc M.below.size o).trans (h.below M.hb (by have := M.below.size; simp; omega))

theorem Ck.bad {w wr : World} {g b k : Nat} {ps : List Ins} (M : Ck w wr g b ps k) (hl : ps.length ≤ 48) (hs : shB ps = true) (hk : k < ps.length) (h1 : oneB ps k = false) : Chk ps k 11 :=
  .inr (.inr (.inl ⟨hl, hs, k, hk, M.all, h1, rfl, rfl⟩))

/-- Take number i first; its slot is d. -/
theorem take_at {P : Program} {md : Region.Mode} {ops : Array Oper} {Q : Exit → Act → World → Prop} {S : World → Prop} {i : Nat} (d : Nat) {oi : Oper} {v : Value} {fuel : Nat} {listed : Array Bool} {l : List Value} {df : List _} {w : World}
    (hi : ops[i]? = some oi) (hd : oi.dst = some d) (hs : Region.noSelect ops = true) (hf : Region.free md ops listed i = true) (hr : (Region.ready md ops listed).contains i = true)
    (hQ : ∀ c a w, Q (.panic c) (a.put oi.dst v) w → Q (.panic c) a w) (hy : YieldsIf P ops S oi v ⟨l.toArray, df⟩) (hS : S w)
    (h : wpAnyH P md ops Q S fuel (listed.setIfInBounds i true) ⟨(l.set d v).toArray, df⟩ w) : wpAnyH P md ops Q S (fuel + 1) listed ⟨l.toArray, df⟩ w := by
  refine wpAnyH_take hi hs hf hr hQ hy hS ?_
  rw [hd]
  simp only [Act.put, List.setIfInBounds_toArray]
  exact h

/-- What Check answers, and leaves. -/
def Checked (w : World) (ps : List Ins) (r : Ending) (w' : World) : Prop :=
  ∃ i e : Int, r = .returned (.tuple #[.int .i64 i, .int .i64 e]) ∧ Chk ps i e ∧ Below w.heap.size w w'

set_option maxHeartbeats 8000000 in
set_option maxRecDepth 100000 in
theorem check_any {w : World} {a : Option Addr} {len cap : Nat} {ps : List Ins} (h : IsIns w a len cap ps) :
    Calls Try.prog 10 #[.slice a len cap] w fun r w' => Checked w ps r w' := by
  have HI := Hid.mk h
  have HL := Hid.mk h.1
  clear h
  by_cases h48 : 48 < len
  · go_enter Try.func10, Try.ntmps10
    go_wp2
    go_ret2
    exact ⟨0, 3, rfl, .inl ⟨by rw [HL.out]; exact h48, rfl, rfl⟩, Below.refl _ _⟩
  have HPL : Hid (ps.length ≤ 48) := Hid.mk (by rw [HL.out]; omega)
  go_enter Try.func10, Try.ntmps10
  go_wp2_with fail
  refine (blocksOf_any HI.out (by omega)).mono ?_
  rintro r w1 ⟨hb1, ⟨hsh, v, rfl⟩ | ⟨hsh, g, hg, rfl, hrow⟩⟩
  · have HS := Hid.mk hsh
    clear hsh
    go_wp2
    go_ret2
    exact ⟨0, 11, rfl, .inr (.inl ⟨HPL.out, HS.out, rfl, rfl⟩), hb1⟩
  have HS := Hid.mk hsh
  obtain ⟨L, hL⟩ : ∃ L, L = ps.length + 1 := ⟨_, rfl⟩
  have hlen := hL.symm
  rw [hlen]
  have hLn : L = len + 1 := by rw [hL, HL.out]
  have HLN := Hid.mk hLn
  clear hL hLn
  have HE := Hid.mk hlen
  have M0 : Ck w (w1.alloc (.cells #[.int .i64 0, .bool false] 40)) g w1.heap.size ps 0 := by
    have hgl := hrow.lt
    exact ⟨hb1.alloc hb1.size _, hg, hb1.size, by omega, hrow.grown ((Below.refl _ _).alloc (Nat.le_refl _) _), ⟨heap_alloc_at _ _⟩, rfl⟩
  clear hsh hlen hrow hb1 hg
  have H48 := Hid.mk h48
  clear h48
  go_wp2
  go_loopw [7, 8, 21] (fun _i _x idx wr => ∃ k : Nat, k ≤ len ∧ idx = .int .i64 k ∧ Ck w wr g w1.heap.size ps k) (fun _ _ idx _ => len - (intOf idx).toNat)
  case atStart => exact ⟨0, Nat.zero_le _, rfl, M0⟩
  case round =>
    obtain ⟨k, hk, rfl, M⟩ := hrel
    by_cases hlt : k < len
    · obtain ⟨gp, off, hae, hat⟩ := (HI.out.carry M.below).at_ (by omega)
      subst hae
      have hkt : k < ps.length := by rw [HL.out]; exact hlt
      have c0 := hat.op k hkt
      have c1 := hat.a k hkt
      have c2 := hat.b k hkt
      have c3 := hat.c k hkt
      obtain ⟨N, hN⟩ : ∃ N, N = inB ps k := ⟨_, rfl⟩
      obtain ⟨x, hx⟩ : ∃ x, x = ps[k]! := ⟨_, rfl⟩
      rw [← hx] at c0 c1 c2 c3
      obtain ⟨V, hV⟩ : ∃ V, V = decide (inB ps k ≠ 0) := ⟨_, rfl⟩
      have zV : ((N : Int) != 0) = V := by
        rw [hV, hN, Bool.eq_iff_iff]
        simp
      have hC := M.con hkt HPL.out x N V hx hN hV _ HE.out
      have hF := M.fb (.cells #[.int .i64 x.op, .int .i64 x.a, .int .i64 x.b, .int .i64 x.c] 31)
      have hopx : opA ps k = x.op := by rw [hx]; rfl
      have hcg : wr.cell? ⟨g, k, none⟩ = some (.int .i64 (N : Nat)) := by rw [hN]; exact M.row.cell k (by omega)
      obtain ⟨f1, hf1⟩ : ∃ f, f = fitsB ps[k]! := ⟨_, rfl⟩
      obtain ⟨f2, hf2⟩ : ∃ f, f = standsB ps[k]!.op (decide (inB ps k ≠ 0)) := ⟨_, rfl⟩
      obtain ⟨f3, hf3⟩ : ∃ f, f = letsB (elB ps k) (suB ps k) ps[k]!.op := ⟨_, rfl⟩
      obtain ⟨f4, hf4⟩ : ∃ f, f = leadsB ps k ps[k]! := ⟨_, rfl⟩
      have hone : oneB ps k = (f1 && f2 && f3 && f4) := by unfold oneB; rw [hf1, hf2, hf3, hf4]
      rw [← hf1, ← hf2, ← hf3, ← hf4] at hC
      obtain ⟨E, hE⟩ : ∃ E, E = elB ps k := ⟨_, rfl⟩
      obtain ⟨S, hS⟩ : ∃ S, S = suB ps k := ⟨_, rfl⟩
      have mn : ∀ z, Fb (wr.alloc (.cells #[.int .i64 x.op, .int .i64 x.a, .int .i64 x.b, .int .i64 x.c] 31)) w1.heap.size (nextE E x.op) (nextS S x.op) z → oneB ps k = true → Ck w z g w1.heap.size ps (k + 1) := fun z hz h1 => M.next (by rw [hopx, ← hE, ← hS]; exact hz) h1
      rw [← hE, ← hS] at hC hF
      have HC := Hid.mk hC
      have HF := Hid.mk hF
      have MH := Hid.mk M
      have HO := Hid.mk hone
      have HLT := Hid.mk hlt
      have HKT := Hid.mk hkt
      have MN := Hid.mk mn
      clear hC hF M hone hkt hN hV hx hopx hf1 hf2 hf3 hf4 hat M0 hE hS mn
      obtain ⟨op, xa, xb, xc⟩ := x
      dsimp only at c0 c1 c2 c3 HC HF MN
      have q1 : (k : Int) < (L : Int) := by have := HLN.out; have := HLT.out; omega
      have q0 : (0 : Int) ≤ (k : Int) := by omega
      have hs0 := HC.out.S _ HF.out
      dsimp only at hs0
      cases f1 with
      | false =>
        go_wp2_with fail
        refine wp_region_held_drew (S := fun wx => wx.cell? ⟨wr.heap.size, 0, none⟩ = some (.int .i64 op) ∧ wx.cell? ⟨wr.heap.size, 1, none⟩ = some (.int .i64 xa) ∧ wx.cell? ⟨wr.heap.size, 2, none⟩ = some (.int .i64 xb) ∧ wx.cell? ⟨wr.heap.size, 3, none⟩ = some (.int .i64 xc) ∧ wx.cell? ⟨g, k, none⟩ = some (.int .i64 (N : Nat))) (by kernel_rfl) hs0 (fun hHeld => ?_)
        refine take_at (i := 0) 26 (v := ?_) rfl rfl (by kernel_rfl) (by kernel_rfl) (by kernel_rfl) (fun _ _ _ h => h) (Or.inl ⟨by rfl, ?h0⟩) (by assumption) ?_
        case h0 =>
          intro wx hSw
          try dsimp only at hSw
          go_simp
          try with_reducible rfl
        simp only [List.set_cons_zero, List.set_cons_succ]
        refine wpAnyH_ready (rs := [1]) (by kernel_rfl) (by simp) ?_
        refine AllReadyH.cons rfl (fun K hK => ?_) AllReadyH.nil
        go_simp
        refine (HC.out.fits _ HF.out).mono ?_
        rintro r z1 ⟨rfl, hd1⟩
        have hs1 := HC.out.S _ hd1
        dsimp only at hs1
        go_wp2_with fail
        refine hK.out _ _ hs1 (fun hHeld => ?_)
        clear hK K
        refine take_at (i := 2) 28 (v := ?_) rfl rfl (by kernel_rfl) (by kernel_rfl) (by kernel_rfl) (fun _ _ _ h => h) (Or.inl ⟨by rfl, ?h2⟩) (by assumption) ?_
        case h2 =>
          intro wx hSw
          try dsimp only at hSw
          go_simp
          try with_reducible rfl
        simp only [List.set_cons_zero, List.set_cons_succ]
        refine take_at (i := 3) 29 (v := ?_) rfl rfl (by kernel_rfl) (by kernel_rfl) (by kernel_rfl) (fun _ _ _ h => h) (Or.inl ⟨by rfl, ?h3⟩) (by assumption) ?_
        case h3 =>
          intro wx hSw
          try dsimp only at hSw
          go_simp
          try with_reducible rfl
        simp only [List.set_cons_zero, List.set_cons_succ]
        refine take_at (i := 4) 30 (v := undef) rfl rfl (by kernel_rfl) (by kernel_rfl) (by kernel_rfl) (fun _ _ _ h => h) (Or.inr ⟨by rfl, rfl⟩) (by assumption) ?_
        simp only [List.set_cons_zero, List.set_cons_succ]
        refine take_at (i := 5) 31 (v := undef) rfl rfl (by kernel_rfl) (by kernel_rfl) (by kernel_rfl) (fun _ _ _ h => h) (Or.inr ⟨by rfl, rfl⟩) (by assumption) ?_
        simp only [List.set_cons_zero, List.set_cons_succ]
        refine take_at (i := 6) 32 (v := undef) rfl rfl (by kernel_rfl) (by kernel_rfl) (by kernel_rfl) (fun _ _ _ h => h) (Or.inr ⟨by rfl, rfl⟩) (by assumption) ?_
        simp only [List.set_cons_zero, List.set_cons_succ]
        refine take_at (i := 7) 33 (v := undef) rfl rfl (by kernel_rfl) (by kernel_rfl) (by kernel_rfl) (fun _ _ _ h => h) (Or.inr ⟨by rfl, rfl⟩) (by assumption) ?_
        simp only [List.set_cons_zero, List.set_cons_succ]
        refine take_at (i := 8) 34 (v := undef) rfl rfl (by kernel_rfl) (by kernel_rfl) (by kernel_rfl) (fun _ _ _ h => h) (Or.inr ⟨by rfl, rfl⟩) (by assumption) ?_
        simp only [List.set_cons_zero, List.set_cons_succ]
        refine take_at (i := 9) 35 (v := undef) rfl rfl (by kernel_rfl) (by kernel_rfl) (by kernel_rfl) (fun _ _ _ h => h) (Or.inr ⟨by rfl, rfl⟩) (by assumption) ?_
        simp only [List.set_cons_zero, List.set_cons_succ]
        refine take_at (i := 10) 36 (v := undef) rfl rfl (by kernel_rfl) (by kernel_rfl) (by kernel_rfl) (fun _ _ _ h => h) (Or.inr ⟨by rfl, rfl⟩) (by assumption) ?_
        simp only [List.set_cons_zero, List.set_cons_succ]
        refine wpAnyH_ready (rs := [11]) (by kernel_rfl) (by simp) ?_
        refine AllReadyH.cons rfl (fun K hK => ?_) AllReadyH.nil
        go_simp
        refine hK.out _ _ hs1 (fun hHeld => ?_)
        clear hK K
        refine take_at (i := 12) 38 (v := undef) rfl rfl (by kernel_rfl) (by kernel_rfl) (by kernel_rfl) (fun _ _ _ h => h) (Or.inr ⟨by rfl, rfl⟩) (by assumption) ?_
        simp only [List.set_cons_zero, List.set_cons_succ]
        refine take_at (i := 13) 39 (v := ?_) rfl rfl (by kernel_rfl) (by kernel_rfl) (by kernel_rfl) (fun _ _ _ h => h) (Or.inl ⟨by rfl, ?h13⟩) (by assumption) ?_
        case h13 =>
          intro wx hSw
          try dsimp only at hSw
          go_simp
          try with_reducible rfl
        simp only [List.set_cons_zero, List.set_cons_succ]
        refine take_at (i := 14) 40 (v := ?_) rfl rfl (by kernel_rfl) (by kernel_rfl) (by kernel_rfl) (fun _ _ _ h => h) (Or.inl ⟨by rfl, ?h14⟩) (by assumption) ?_
        case h14 =>
          intro wx hSw
          try dsimp only at hSw
          go_simp
          try with_reducible rfl
        simp only [List.set_cons_zero, List.set_cons_succ]
        refine take_at (i := 15) 41 (v := undef) rfl rfl (by kernel_rfl) (by kernel_rfl) (by kernel_rfl) (fun _ _ _ h => h) (Or.inr ⟨by rfl, rfl⟩) (by assumption) ?_
        simp only [List.set_cons_zero, List.set_cons_succ]
        refine take_at (i := 16) 42 (v := undef) rfl rfl (by kernel_rfl) (by kernel_rfl) (by kernel_rfl) (fun _ _ _ h => h) (Or.inr ⟨by rfl, rfl⟩) (by assumption) ?_
        simp only [List.set_cons_zero, List.set_cons_succ]
        refine wpAnyH_ready (rs := [17]) (by kernel_rfl) (by simp) ?_
        refine AllReadyH.cons rfl (fun K hK => ?_) AllReadyH.nil
        go_simp
        refine hK.out _ _ hs1 (fun hHeld => ?_)
        clear hK K
        refine take_at (i := 18) 44 (v := undef) rfl rfl (by kernel_rfl) (by kernel_rfl) (by kernel_rfl) (fun _ _ _ h => h) (Or.inr ⟨by rfl, rfl⟩) (by assumption) ?_
        simp only [List.set_cons_zero, List.set_cons_succ]
        refine take_at (i := 19) 45 (v := ?_) rfl rfl (by kernel_rfl) (by kernel_rfl) (by kernel_rfl) (fun _ _ _ h => h) (Or.inl ⟨by rfl, ?h19⟩) (by assumption) ?_
        case h19 =>
          intro wx hSw
          try dsimp only at hSw
          go_simp
          try with_reducible rfl
        simp only [List.set_cons_zero, List.set_cons_succ]
        refine take_at (i := 20) 46 (v := ?_) rfl rfl (by kernel_rfl) (by kernel_rfl) (by kernel_rfl) (fun _ _ _ h => h) (Or.inl ⟨by rfl, ?h20⟩) (by assumption) ?_
        case h20 =>
          intro wx hSw
          try dsimp only at hSw
          go_simp
          try with_reducible rfl
        simp only [List.set_cons_zero, List.set_cons_succ]
        refine take_at (i := 21) 47 (v := undef) rfl rfl (by kernel_rfl) (by kernel_rfl) (by kernel_rfl) (fun _ _ _ h => h) (Or.inr ⟨by rfl, rfl⟩) (by assumption) ?_
        simp only [List.set_cons_zero, List.set_cons_succ]
        refine take_at (i := 22) 48 (v := undef) rfl rfl (by kernel_rfl) (by kernel_rfl) (by kernel_rfl) (fun _ _ _ h => h) (Or.inr ⟨by rfl, rfl⟩) (by assumption) ?_
        simp only [List.set_cons_zero, List.set_cons_succ]
        refine take_at (i := 23) 49 (v := undef) rfl rfl (by kernel_rfl) (by kernel_rfl) (by kernel_rfl) (fun _ _ _ h => h) (Or.inr ⟨by rfl, rfl⟩) (by assumption) ?_
        simp only [List.set_cons_zero, List.set_cons_succ]
        refine wpAnyH_ready (rs := [24]) (by kernel_rfl) (by simp) ?_
        refine AllReadyH.cons rfl (fun K hK => ?_) AllReadyH.nil
        go_simp
        refine hK.out _ _ hs1 (fun hHeld => ?_)
        clear hK K
        refine take_at (i := 25) 51 (v := undef) rfl rfl (by kernel_rfl) (by kernel_rfl) (by kernel_rfl) (fun _ _ _ h => h) (Or.inr ⟨by rfl, rfl⟩) (by assumption) ?_
        simp only [List.set_cons_zero, List.set_cons_succ]
        refine take_at (i := 26) 52 (v := ?_) rfl rfl (by kernel_rfl) (by kernel_rfl) (by kernel_rfl) (fun _ _ _ h => h) (Or.inl ⟨by rfl, ?h26⟩) (by assumption) ?_
        case h26 =>
          intro wx hSw
          try dsimp only at hSw
          go_simp
          try with_reducible rfl
        simp only [List.set_cons_zero, List.set_cons_succ]
        refine wpAnyH_done (by kernel_rfl) ?_ _
        go_wp2
        go_ret2
        exact ⟨k, 11, rfl, MH.out.bad HPL.out HS.out HKT.out (by rw [HO.out]; simp), MH.out.out hd1⟩
      | true =>
      cases f2 with
      | false =>
        go_wp2_with fail
        refine wp_region_held_drew (S := fun wx => wx.cell? ⟨wr.heap.size, 0, none⟩ = some (.int .i64 op) ∧ wx.cell? ⟨wr.heap.size, 1, none⟩ = some (.int .i64 xa) ∧ wx.cell? ⟨wr.heap.size, 2, none⟩ = some (.int .i64 xb) ∧ wx.cell? ⟨wr.heap.size, 3, none⟩ = some (.int .i64 xc) ∧ wx.cell? ⟨g, k, none⟩ = some (.int .i64 (N : Nat))) (by kernel_rfl) hs0 (fun hHeld => ?_)
        refine take_at (i := 0) 26 (v := ?_) rfl rfl (by kernel_rfl) (by kernel_rfl) (by kernel_rfl) (fun _ _ _ h => h) (Or.inl ⟨by rfl, ?h0⟩) (by assumption) ?_
        case h0 =>
          intro wx hSw
          try dsimp only at hSw
          go_simp
          try with_reducible rfl
        simp only [List.set_cons_zero, List.set_cons_succ]
        refine wpAnyH_ready (rs := [1]) (by kernel_rfl) (by simp) ?_
        refine AllReadyH.cons rfl (fun K hK => ?_) AllReadyH.nil
        go_simp
        refine (HC.out.fits _ HF.out).mono ?_
        rintro r z1 ⟨rfl, hd1⟩
        have hs1 := HC.out.S _ hd1
        dsimp only at hs1
        go_wp2_with fail
        refine hK.out _ _ hs1 (fun hHeld => ?_)
        clear hK K
        refine take_at (i := 2) 28 (v := ?_) rfl rfl (by kernel_rfl) (by kernel_rfl) (by kernel_rfl) (fun _ _ _ h => h) (Or.inl ⟨by rfl, ?h2⟩) (by assumption) ?_
        case h2 =>
          intro wx hSw
          try dsimp only at hSw
          go_simp
          try with_reducible rfl
        simp only [List.set_cons_zero, List.set_cons_succ]
        refine take_at (i := 3) 29 (v := ?_) rfl rfl (by kernel_rfl) (by kernel_rfl) (by kernel_rfl) (fun _ _ _ h => h) (Or.inl ⟨by rfl, ?h3⟩) (by assumption) ?_
        case h3 =>
          intro wx hSw
          try dsimp only at hSw
          go_simp
          try with_reducible rfl
        simp only [List.set_cons_zero, List.set_cons_succ]
        refine take_at (i := 4) 30 (v := ?_) rfl rfl (by kernel_rfl) (by kernel_rfl) (by kernel_rfl) (fun _ _ _ h => h) (Or.inl ⟨by rfl, ?h4⟩) (by assumption) ?_
        case h4 =>
          intro wx hSw
          try dsimp only at hSw
          go_simp
          try with_reducible rfl
        simp only [List.set_cons_zero, List.set_cons_succ]
        refine take_at (i := 5) 31 (v := ?_) rfl rfl (by kernel_rfl) (by kernel_rfl) (by kernel_rfl) (fun _ _ _ h => h) (Or.inl ⟨by rfl, ?h5⟩) (by assumption) ?_
        case h5 =>
          intro wx hSw
          try dsimp only at hSw
          go_simp
          try with_reducible rfl
        simp only [List.set_cons_zero, List.set_cons_succ]
        refine take_at (i := 6) 32 (v := ?_) rfl rfl (by kernel_rfl) (by kernel_rfl) (by kernel_rfl) (fun _ _ _ h => h) (Or.inl ⟨by rfl, ?h6⟩) (by assumption) ?_
        case h6 =>
          intro wx hSw
          try dsimp only at hSw
          go_simp
          try with_reducible rfl
        simp only [List.set_cons_zero, List.set_cons_succ]
        refine take_at (i := 7) 33 (v := ?_) rfl rfl (by kernel_rfl) (by kernel_rfl) (by kernel_rfl) (fun _ _ _ h => h) (Or.inl ⟨by rfl, ?h7⟩) (by assumption) ?_
        case h7 =>
          intro wx hSw
          try dsimp only at hSw
          go_simp
          try with_reducible rfl
        simp only [List.set_cons_zero, List.set_cons_succ]
        refine take_at (i := 8) 34 (v := ?_) rfl rfl (by kernel_rfl) (by kernel_rfl) (by kernel_rfl) (fun _ _ _ h => h) (Or.inl ⟨by rfl, ?h8⟩) (by assumption) ?_
        case h8 =>
          intro wx hSw
          try dsimp only at hSw
          go_simp
          try with_reducible rfl
        simp only [List.set_cons_zero, List.set_cons_succ]
        refine take_at (i := 9) 35 (v := ?_) rfl rfl (by kernel_rfl) (by kernel_rfl) (by kernel_rfl) (fun _ _ _ h => h) (Or.inl ⟨by rfl, ?h9⟩) (by assumption) ?_
        case h9 =>
          intro wx hSw
          try dsimp only at hSw
          go_simp
          try with_reducible rfl
        simp only [List.set_cons_zero, List.set_cons_succ]
        refine take_at (i := 10) 36 (v := ?_) rfl rfl (by kernel_rfl) (by kernel_rfl) (by kernel_rfl) (fun _ _ _ h => h) (Or.inl ⟨by rfl, ?h10⟩) (by assumption) ?_
        case h10 =>
          intro wx hSw
          try dsimp only at hSw
          go_simp
          try with_reducible rfl
        simp only [List.set_cons_zero, List.set_cons_succ]
        refine wpAnyH_ready (rs := [11]) (by kernel_rfl) (by simp) ?_
        refine AllReadyH.cons rfl (fun K hK => ?_) AllReadyH.nil
        go_simp
        refine (HC.out.stands _ hd1).mono ?_
        rintro r z2 ⟨rfl, hd2⟩
        have hs2 := HC.out.S _ hd2
        dsimp only at hs2
        go_wp2_with fail
        refine hK.out _ _ hs2 (fun hHeld => ?_)
        clear hK K
        refine take_at (i := 12) 38 (v := ?_) rfl rfl (by kernel_rfl) (by kernel_rfl) (by kernel_rfl) (fun _ _ _ h => h) (Or.inl ⟨by rfl, ?h12⟩) (by assumption) ?_
        case h12 =>
          intro wx hSw
          try dsimp only at hSw
          go_simp
          try with_reducible rfl
        simp only [List.set_cons_zero, List.set_cons_succ]
        refine take_at (i := 13) 39 (v := ?_) rfl rfl (by kernel_rfl) (by kernel_rfl) (by kernel_rfl) (fun _ _ _ h => h) (Or.inl ⟨by rfl, ?h13⟩) (by assumption) ?_
        case h13 =>
          intro wx hSw
          try dsimp only at hSw
          go_simp
          try with_reducible rfl
        simp only [List.set_cons_zero, List.set_cons_succ]
        refine take_at (i := 14) 40 (v := ?_) rfl rfl (by kernel_rfl) (by kernel_rfl) (by kernel_rfl) (fun _ _ _ h => h) (Or.inl ⟨by rfl, ?h14⟩) (by assumption) ?_
        case h14 =>
          intro wx hSw
          try dsimp only at hSw
          go_simp
          try with_reducible rfl
        simp only [List.set_cons_zero, List.set_cons_succ]
        refine take_at (i := 15) 41 (v := undef) rfl rfl (by kernel_rfl) (by kernel_rfl) (by kernel_rfl) (fun _ _ _ h => h) (Or.inr ⟨by rfl, rfl⟩) (by assumption) ?_
        simp only [List.set_cons_zero, List.set_cons_succ]
        refine take_at (i := 16) 42 (v := undef) rfl rfl (by kernel_rfl) (by kernel_rfl) (by kernel_rfl) (fun _ _ _ h => h) (Or.inr ⟨by rfl, rfl⟩) (by assumption) ?_
        simp only [List.set_cons_zero, List.set_cons_succ]
        refine wpAnyH_ready (rs := [17]) (by kernel_rfl) (by simp) ?_
        refine AllReadyH.cons rfl (fun K hK => ?_) AllReadyH.nil
        go_simp
        refine hK.out _ _ hs2 (fun hHeld => ?_)
        clear hK K
        refine take_at (i := 18) 44 (v := undef) rfl rfl (by kernel_rfl) (by kernel_rfl) (by kernel_rfl) (fun _ _ _ h => h) (Or.inr ⟨by rfl, rfl⟩) (by assumption) ?_
        simp only [List.set_cons_zero, List.set_cons_succ]
        refine take_at (i := 19) 45 (v := ?_) rfl rfl (by kernel_rfl) (by kernel_rfl) (by kernel_rfl) (fun _ _ _ h => h) (Or.inl ⟨by rfl, ?h19⟩) (by assumption) ?_
        case h19 =>
          intro wx hSw
          try dsimp only at hSw
          go_simp
          try with_reducible rfl
        simp only [List.set_cons_zero, List.set_cons_succ]
        refine take_at (i := 20) 46 (v := ?_) rfl rfl (by kernel_rfl) (by kernel_rfl) (by kernel_rfl) (fun _ _ _ h => h) (Or.inl ⟨by rfl, ?h20⟩) (by assumption) ?_
        case h20 =>
          intro wx hSw
          try dsimp only at hSw
          go_simp
          try with_reducible rfl
        simp only [List.set_cons_zero, List.set_cons_succ]
        refine take_at (i := 21) 47 (v := undef) rfl rfl (by kernel_rfl) (by kernel_rfl) (by kernel_rfl) (fun _ _ _ h => h) (Or.inr ⟨by rfl, rfl⟩) (by assumption) ?_
        simp only [List.set_cons_zero, List.set_cons_succ]
        refine take_at (i := 22) 48 (v := undef) rfl rfl (by kernel_rfl) (by kernel_rfl) (by kernel_rfl) (fun _ _ _ h => h) (Or.inr ⟨by rfl, rfl⟩) (by assumption) ?_
        simp only [List.set_cons_zero, List.set_cons_succ]
        refine take_at (i := 23) 49 (v := undef) rfl rfl (by kernel_rfl) (by kernel_rfl) (by kernel_rfl) (fun _ _ _ h => h) (Or.inr ⟨by rfl, rfl⟩) (by assumption) ?_
        simp only [List.set_cons_zero, List.set_cons_succ]
        refine wpAnyH_ready (rs := [24]) (by kernel_rfl) (by simp) ?_
        refine AllReadyH.cons rfl (fun K hK => ?_) AllReadyH.nil
        go_simp
        refine hK.out _ _ hs2 (fun hHeld => ?_)
        clear hK K
        refine take_at (i := 25) 51 (v := undef) rfl rfl (by kernel_rfl) (by kernel_rfl) (by kernel_rfl) (fun _ _ _ h => h) (Or.inr ⟨by rfl, rfl⟩) (by assumption) ?_
        simp only [List.set_cons_zero, List.set_cons_succ]
        refine take_at (i := 26) 52 (v := ?_) rfl rfl (by kernel_rfl) (by kernel_rfl) (by kernel_rfl) (fun _ _ _ h => h) (Or.inl ⟨by rfl, ?h26⟩) (by assumption) ?_
        case h26 =>
          intro wx hSw
          try dsimp only at hSw
          go_simp
          try with_reducible rfl
        simp only [List.set_cons_zero, List.set_cons_succ]
        refine wpAnyH_done (by kernel_rfl) ?_ _
        go_wp2
        go_ret2
        exact ⟨k, 11, rfl, MH.out.bad HPL.out HS.out HKT.out (by rw [HO.out]; simp), MH.out.out hd2⟩
      | true =>
      cases f3 with
      | false =>
        go_wp2_with fail
        refine wp_region_held_drew (S := fun wx => wx.cell? ⟨wr.heap.size, 0, none⟩ = some (.int .i64 op) ∧ wx.cell? ⟨wr.heap.size, 1, none⟩ = some (.int .i64 xa) ∧ wx.cell? ⟨wr.heap.size, 2, none⟩ = some (.int .i64 xb) ∧ wx.cell? ⟨wr.heap.size, 3, none⟩ = some (.int .i64 xc) ∧ wx.cell? ⟨g, k, none⟩ = some (.int .i64 (N : Nat))) (by kernel_rfl) hs0 (fun hHeld => ?_)
        refine take_at (i := 0) 26 (v := ?_) rfl rfl (by kernel_rfl) (by kernel_rfl) (by kernel_rfl) (fun _ _ _ h => h) (Or.inl ⟨by rfl, ?h0⟩) (by assumption) ?_
        case h0 =>
          intro wx hSw
          try dsimp only at hSw
          go_simp
          try with_reducible rfl
        simp only [List.set_cons_zero, List.set_cons_succ]
        refine wpAnyH_ready (rs := [1]) (by kernel_rfl) (by simp) ?_
        refine AllReadyH.cons rfl (fun K hK => ?_) AllReadyH.nil
        go_simp
        refine (HC.out.fits _ HF.out).mono ?_
        rintro r z1 ⟨rfl, hd1⟩
        have hs1 := HC.out.S _ hd1
        dsimp only at hs1
        go_wp2_with fail
        refine hK.out _ _ hs1 (fun hHeld => ?_)
        clear hK K
        refine take_at (i := 2) 28 (v := ?_) rfl rfl (by kernel_rfl) (by kernel_rfl) (by kernel_rfl) (fun _ _ _ h => h) (Or.inl ⟨by rfl, ?h2⟩) (by assumption) ?_
        case h2 =>
          intro wx hSw
          try dsimp only at hSw
          go_simp
          try with_reducible rfl
        simp only [List.set_cons_zero, List.set_cons_succ]
        refine take_at (i := 3) 29 (v := ?_) rfl rfl (by kernel_rfl) (by kernel_rfl) (by kernel_rfl) (fun _ _ _ h => h) (Or.inl ⟨by rfl, ?h3⟩) (by assumption) ?_
        case h3 =>
          intro wx hSw
          try dsimp only at hSw
          go_simp
          try with_reducible rfl
        simp only [List.set_cons_zero, List.set_cons_succ]
        refine take_at (i := 4) 30 (v := ?_) rfl rfl (by kernel_rfl) (by kernel_rfl) (by kernel_rfl) (fun _ _ _ h => h) (Or.inl ⟨by rfl, ?h4⟩) (by assumption) ?_
        case h4 =>
          intro wx hSw
          try dsimp only at hSw
          go_simp
          try with_reducible rfl
        simp only [List.set_cons_zero, List.set_cons_succ]
        refine take_at (i := 5) 31 (v := ?_) rfl rfl (by kernel_rfl) (by kernel_rfl) (by kernel_rfl) (fun _ _ _ h => h) (Or.inl ⟨by rfl, ?h5⟩) (by assumption) ?_
        case h5 =>
          intro wx hSw
          try dsimp only at hSw
          go_simp
          try with_reducible rfl
        simp only [List.set_cons_zero, List.set_cons_succ]
        refine take_at (i := 6) 32 (v := ?_) rfl rfl (by kernel_rfl) (by kernel_rfl) (by kernel_rfl) (fun _ _ _ h => h) (Or.inl ⟨by rfl, ?h6⟩) (by assumption) ?_
        case h6 =>
          intro wx hSw
          try dsimp only at hSw
          go_simp
          try with_reducible rfl
        simp only [List.set_cons_zero, List.set_cons_succ]
        refine take_at (i := 7) 33 (v := ?_) rfl rfl (by kernel_rfl) (by kernel_rfl) (by kernel_rfl) (fun _ _ _ h => h) (Or.inl ⟨by rfl, ?h7⟩) (by assumption) ?_
        case h7 =>
          intro wx hSw
          try dsimp only at hSw
          go_simp
          try with_reducible rfl
        simp only [List.set_cons_zero, List.set_cons_succ]
        refine take_at (i := 8) 34 (v := ?_) rfl rfl (by kernel_rfl) (by kernel_rfl) (by kernel_rfl) (fun _ _ _ h => h) (Or.inl ⟨by rfl, ?h8⟩) (by assumption) ?_
        case h8 =>
          intro wx hSw
          try dsimp only at hSw
          go_simp
          try with_reducible rfl
        simp only [List.set_cons_zero, List.set_cons_succ]
        refine take_at (i := 9) 35 (v := ?_) rfl rfl (by kernel_rfl) (by kernel_rfl) (by kernel_rfl) (fun _ _ _ h => h) (Or.inl ⟨by rfl, ?h9⟩) (by assumption) ?_
        case h9 =>
          intro wx hSw
          try dsimp only at hSw
          go_simp
          try with_reducible rfl
        simp only [List.set_cons_zero, List.set_cons_succ]
        refine take_at (i := 10) 36 (v := ?_) rfl rfl (by kernel_rfl) (by kernel_rfl) (by kernel_rfl) (fun _ _ _ h => h) (Or.inl ⟨by rfl, ?h10⟩) (by assumption) ?_
        case h10 =>
          intro wx hSw
          try dsimp only at hSw
          go_simp
          try with_reducible rfl
        simp only [List.set_cons_zero, List.set_cons_succ]
        refine wpAnyH_ready (rs := [11]) (by kernel_rfl) (by simp) ?_
        refine AllReadyH.cons rfl (fun K hK => ?_) AllReadyH.nil
        go_simp
        refine (HC.out.stands _ hd1).mono ?_
        rintro r z2 ⟨rfl, hd2⟩
        have hs2 := HC.out.S _ hd2
        dsimp only at hs2
        go_wp2_with fail
        refine hK.out _ _ hs2 (fun hHeld => ?_)
        clear hK K
        refine take_at (i := 12) 38 (v := ?_) rfl rfl (by kernel_rfl) (by kernel_rfl) (by kernel_rfl) (fun _ _ _ h => h) (Or.inl ⟨by rfl, ?h12⟩) (by assumption) ?_
        case h12 =>
          intro wx hSw
          try dsimp only at hSw
          go_simp
          try with_reducible rfl
        simp only [List.set_cons_zero, List.set_cons_succ]
        refine take_at (i := 13) 39 (v := ?_) rfl rfl (by kernel_rfl) (by kernel_rfl) (by kernel_rfl) (fun _ _ _ h => h) (Or.inl ⟨by rfl, ?h13⟩) (by assumption) ?_
        case h13 =>
          intro wx hSw
          try dsimp only at hSw
          go_simp
          try with_reducible rfl
        simp only [List.set_cons_zero, List.set_cons_succ]
        refine take_at (i := 14) 40 (v := ?_) rfl rfl (by kernel_rfl) (by kernel_rfl) (by kernel_rfl) (fun _ _ _ h => h) (Or.inl ⟨by rfl, ?h14⟩) (by assumption) ?_
        case h14 =>
          intro wx hSw
          try dsimp only at hSw
          go_simp
          try with_reducible rfl
        simp only [List.set_cons_zero, List.set_cons_succ]
        refine take_at (i := 15) 41 (v := ?_) rfl rfl (by kernel_rfl) (by kernel_rfl) (by kernel_rfl) (fun _ _ _ h => h) (Or.inl ⟨by rfl, ?h15⟩) (by assumption) ?_
        case h15 =>
          intro wx hSw
          try dsimp only at hSw
          go_simp
          try with_reducible rfl
        simp only [List.set_cons_zero, List.set_cons_succ]
        refine take_at (i := 16) 42 (v := ?_) rfl rfl (by kernel_rfl) (by kernel_rfl) (by kernel_rfl) (fun _ _ _ h => h) (Or.inl ⟨by rfl, ?h16⟩) (by assumption) ?_
        case h16 =>
          intro wx hSw
          try dsimp only at hSw
          go_simp
          try with_reducible rfl
        simp only [List.set_cons_zero, List.set_cons_succ]
        refine wpAnyH_ready (rs := [17]) (by kernel_rfl) (by simp) ?_
        refine AllReadyH.cons rfl (fun K hK => ?_) AllReadyH.nil
        go_simp
        refine (HC.out.lets _ hd2).mono ?_
        rintro r z3 ⟨rfl, hd3⟩
        have hs3 := HC.out.S _ hd3
        dsimp only at hs3
        go_wp2_with fail
        refine hK.out _ _ hs3 (fun hHeld => ?_)
        clear hK K
        refine take_at (i := 18) 44 (v := ?_) rfl rfl (by kernel_rfl) (by kernel_rfl) (by kernel_rfl) (fun _ _ _ h => h) (Or.inl ⟨by rfl, ?h18⟩) (by assumption) ?_
        case h18 =>
          intro wx hSw
          try dsimp only at hSw
          go_simp
          try with_reducible rfl
        simp only [List.set_cons_zero, List.set_cons_succ]
        refine take_at (i := 19) 45 (v := ?_) rfl rfl (by kernel_rfl) (by kernel_rfl) (by kernel_rfl) (fun _ _ _ h => h) (Or.inl ⟨by rfl, ?h19⟩) (by assumption) ?_
        case h19 =>
          intro wx hSw
          try dsimp only at hSw
          go_simp
          try with_reducible rfl
        simp only [List.set_cons_zero, List.set_cons_succ]
        refine take_at (i := 20) 46 (v := ?_) rfl rfl (by kernel_rfl) (by kernel_rfl) (by kernel_rfl) (fun _ _ _ h => h) (Or.inl ⟨by rfl, ?h20⟩) (by assumption) ?_
        case h20 =>
          intro wx hSw
          try dsimp only at hSw
          go_simp
          try with_reducible rfl
        simp only [List.set_cons_zero, List.set_cons_succ]
        refine take_at (i := 21) 47 (v := undef) rfl rfl (by kernel_rfl) (by kernel_rfl) (by kernel_rfl) (fun _ _ _ h => h) (Or.inr ⟨by rfl, rfl⟩) (by assumption) ?_
        simp only [List.set_cons_zero, List.set_cons_succ]
        refine take_at (i := 22) 48 (v := undef) rfl rfl (by kernel_rfl) (by kernel_rfl) (by kernel_rfl) (fun _ _ _ h => h) (Or.inr ⟨by rfl, rfl⟩) (by assumption) ?_
        simp only [List.set_cons_zero, List.set_cons_succ]
        refine take_at (i := 23) 49 (v := undef) rfl rfl (by kernel_rfl) (by kernel_rfl) (by kernel_rfl) (fun _ _ _ h => h) (Or.inr ⟨by rfl, rfl⟩) (by assumption) ?_
        simp only [List.set_cons_zero, List.set_cons_succ]
        refine wpAnyH_ready (rs := [24]) (by kernel_rfl) (by simp) ?_
        refine AllReadyH.cons rfl (fun K hK => ?_) AllReadyH.nil
        go_simp
        refine hK.out _ _ hs3 (fun hHeld => ?_)
        clear hK K
        refine take_at (i := 25) 51 (v := undef) rfl rfl (by kernel_rfl) (by kernel_rfl) (by kernel_rfl) (fun _ _ _ h => h) (Or.inr ⟨by rfl, rfl⟩) (by assumption) ?_
        simp only [List.set_cons_zero, List.set_cons_succ]
        refine take_at (i := 26) 52 (v := ?_) rfl rfl (by kernel_rfl) (by kernel_rfl) (by kernel_rfl) (fun _ _ _ h => h) (Or.inl ⟨by rfl, ?h26⟩) (by assumption) ?_
        case h26 =>
          intro wx hSw
          try dsimp only at hSw
          go_simp
          try with_reducible rfl
        simp only [List.set_cons_zero, List.set_cons_succ]
        refine wpAnyH_done (by kernel_rfl) ?_ _
        go_wp2
        go_ret2
        exact ⟨k, 11, rfl, MH.out.bad HPL.out HS.out HKT.out (by rw [HO.out]; simp), MH.out.out hd3⟩
      | true =>
      cases f4 with
      | false =>
        go_wp2_with fail
        refine wp_region_held_drew (S := fun wx => wx.cell? ⟨wr.heap.size, 0, none⟩ = some (.int .i64 op) ∧ wx.cell? ⟨wr.heap.size, 1, none⟩ = some (.int .i64 xa) ∧ wx.cell? ⟨wr.heap.size, 2, none⟩ = some (.int .i64 xb) ∧ wx.cell? ⟨wr.heap.size, 3, none⟩ = some (.int .i64 xc) ∧ wx.cell? ⟨g, k, none⟩ = some (.int .i64 (N : Nat))) (by kernel_rfl) hs0 (fun hHeld => ?_)
        refine take_at (i := 0) 26 (v := ?_) rfl rfl (by kernel_rfl) (by kernel_rfl) (by kernel_rfl) (fun _ _ _ h => h) (Or.inl ⟨by rfl, ?h0⟩) (by assumption) ?_
        case h0 =>
          intro wx hSw
          try dsimp only at hSw
          go_simp
          try with_reducible rfl
        simp only [List.set_cons_zero, List.set_cons_succ]
        refine wpAnyH_ready (rs := [1]) (by kernel_rfl) (by simp) ?_
        refine AllReadyH.cons rfl (fun K hK => ?_) AllReadyH.nil
        go_simp
        refine (HC.out.fits _ HF.out).mono ?_
        rintro r z1 ⟨rfl, hd1⟩
        have hs1 := HC.out.S _ hd1
        dsimp only at hs1
        go_wp2_with fail
        refine hK.out _ _ hs1 (fun hHeld => ?_)
        clear hK K
        refine take_at (i := 2) 28 (v := ?_) rfl rfl (by kernel_rfl) (by kernel_rfl) (by kernel_rfl) (fun _ _ _ h => h) (Or.inl ⟨by rfl, ?h2⟩) (by assumption) ?_
        case h2 =>
          intro wx hSw
          try dsimp only at hSw
          go_simp
          try with_reducible rfl
        simp only [List.set_cons_zero, List.set_cons_succ]
        refine take_at (i := 3) 29 (v := ?_) rfl rfl (by kernel_rfl) (by kernel_rfl) (by kernel_rfl) (fun _ _ _ h => h) (Or.inl ⟨by rfl, ?h3⟩) (by assumption) ?_
        case h3 =>
          intro wx hSw
          try dsimp only at hSw
          go_simp
          try with_reducible rfl
        simp only [List.set_cons_zero, List.set_cons_succ]
        refine take_at (i := 4) 30 (v := ?_) rfl rfl (by kernel_rfl) (by kernel_rfl) (by kernel_rfl) (fun _ _ _ h => h) (Or.inl ⟨by rfl, ?h4⟩) (by assumption) ?_
        case h4 =>
          intro wx hSw
          try dsimp only at hSw
          go_simp
          try with_reducible rfl
        simp only [List.set_cons_zero, List.set_cons_succ]
        refine take_at (i := 5) 31 (v := ?_) rfl rfl (by kernel_rfl) (by kernel_rfl) (by kernel_rfl) (fun _ _ _ h => h) (Or.inl ⟨by rfl, ?h5⟩) (by assumption) ?_
        case h5 =>
          intro wx hSw
          try dsimp only at hSw
          go_simp
          try with_reducible rfl
        simp only [List.set_cons_zero, List.set_cons_succ]
        refine take_at (i := 6) 32 (v := ?_) rfl rfl (by kernel_rfl) (by kernel_rfl) (by kernel_rfl) (fun _ _ _ h => h) (Or.inl ⟨by rfl, ?h6⟩) (by assumption) ?_
        case h6 =>
          intro wx hSw
          try dsimp only at hSw
          go_simp
          try with_reducible rfl
        simp only [List.set_cons_zero, List.set_cons_succ]
        refine take_at (i := 7) 33 (v := ?_) rfl rfl (by kernel_rfl) (by kernel_rfl) (by kernel_rfl) (fun _ _ _ h => h) (Or.inl ⟨by rfl, ?h7⟩) (by assumption) ?_
        case h7 =>
          intro wx hSw
          try dsimp only at hSw
          go_simp
          try with_reducible rfl
        simp only [List.set_cons_zero, List.set_cons_succ]
        refine take_at (i := 8) 34 (v := ?_) rfl rfl (by kernel_rfl) (by kernel_rfl) (by kernel_rfl) (fun _ _ _ h => h) (Or.inl ⟨by rfl, ?h8⟩) (by assumption) ?_
        case h8 =>
          intro wx hSw
          try dsimp only at hSw
          go_simp
          try with_reducible rfl
        simp only [List.set_cons_zero, List.set_cons_succ]
        refine take_at (i := 9) 35 (v := ?_) rfl rfl (by kernel_rfl) (by kernel_rfl) (by kernel_rfl) (fun _ _ _ h => h) (Or.inl ⟨by rfl, ?h9⟩) (by assumption) ?_
        case h9 =>
          intro wx hSw
          try dsimp only at hSw
          go_simp
          try with_reducible rfl
        simp only [List.set_cons_zero, List.set_cons_succ]
        refine take_at (i := 10) 36 (v := ?_) rfl rfl (by kernel_rfl) (by kernel_rfl) (by kernel_rfl) (fun _ _ _ h => h) (Or.inl ⟨by rfl, ?h10⟩) (by assumption) ?_
        case h10 =>
          intro wx hSw
          try dsimp only at hSw
          go_simp
          try with_reducible rfl
        simp only [List.set_cons_zero, List.set_cons_succ]
        refine wpAnyH_ready (rs := [11]) (by kernel_rfl) (by simp) ?_
        refine AllReadyH.cons rfl (fun K hK => ?_) AllReadyH.nil
        go_simp
        refine (HC.out.stands _ hd1).mono ?_
        rintro r z2 ⟨rfl, hd2⟩
        have hs2 := HC.out.S _ hd2
        dsimp only at hs2
        go_wp2_with fail
        refine hK.out _ _ hs2 (fun hHeld => ?_)
        clear hK K
        refine take_at (i := 12) 38 (v := ?_) rfl rfl (by kernel_rfl) (by kernel_rfl) (by kernel_rfl) (fun _ _ _ h => h) (Or.inl ⟨by rfl, ?h12⟩) (by assumption) ?_
        case h12 =>
          intro wx hSw
          try dsimp only at hSw
          go_simp
          try with_reducible rfl
        simp only [List.set_cons_zero, List.set_cons_succ]
        refine take_at (i := 13) 39 (v := ?_) rfl rfl (by kernel_rfl) (by kernel_rfl) (by kernel_rfl) (fun _ _ _ h => h) (Or.inl ⟨by rfl, ?h13⟩) (by assumption) ?_
        case h13 =>
          intro wx hSw
          try dsimp only at hSw
          go_simp
          try with_reducible rfl
        simp only [List.set_cons_zero, List.set_cons_succ]
        refine take_at (i := 14) 40 (v := ?_) rfl rfl (by kernel_rfl) (by kernel_rfl) (by kernel_rfl) (fun _ _ _ h => h) (Or.inl ⟨by rfl, ?h14⟩) (by assumption) ?_
        case h14 =>
          intro wx hSw
          try dsimp only at hSw
          go_simp
          try with_reducible rfl
        simp only [List.set_cons_zero, List.set_cons_succ]
        refine take_at (i := 15) 41 (v := ?_) rfl rfl (by kernel_rfl) (by kernel_rfl) (by kernel_rfl) (fun _ _ _ h => h) (Or.inl ⟨by rfl, ?h15⟩) (by assumption) ?_
        case h15 =>
          intro wx hSw
          try dsimp only at hSw
          go_simp
          try with_reducible rfl
        simp only [List.set_cons_zero, List.set_cons_succ]
        refine take_at (i := 16) 42 (v := ?_) rfl rfl (by kernel_rfl) (by kernel_rfl) (by kernel_rfl) (fun _ _ _ h => h) (Or.inl ⟨by rfl, ?h16⟩) (by assumption) ?_
        case h16 =>
          intro wx hSw
          try dsimp only at hSw
          go_simp
          try with_reducible rfl
        simp only [List.set_cons_zero, List.set_cons_succ]
        refine wpAnyH_ready (rs := [17]) (by kernel_rfl) (by simp) ?_
        refine AllReadyH.cons rfl (fun K hK => ?_) AllReadyH.nil
        go_simp
        refine (HC.out.lets _ hd2).mono ?_
        rintro r z3 ⟨rfl, hd3⟩
        have hs3 := HC.out.S _ hd3
        dsimp only at hs3
        go_wp2_with fail
        refine hK.out _ _ hs3 (fun hHeld => ?_)
        clear hK K
        refine take_at (i := 18) 44 (v := ?_) rfl rfl (by kernel_rfl) (by kernel_rfl) (by kernel_rfl) (fun _ _ _ h => h) (Or.inl ⟨by rfl, ?h18⟩) (by assumption) ?_
        case h18 =>
          intro wx hSw
          try dsimp only at hSw
          go_simp
          try with_reducible rfl
        simp only [List.set_cons_zero, List.set_cons_succ]
        refine take_at (i := 19) 45 (v := ?_) rfl rfl (by kernel_rfl) (by kernel_rfl) (by kernel_rfl) (fun _ _ _ h => h) (Or.inl ⟨by rfl, ?h19⟩) (by assumption) ?_
        case h19 =>
          intro wx hSw
          try dsimp only at hSw
          go_simp
          try with_reducible rfl
        simp only [List.set_cons_zero, List.set_cons_succ]
        refine take_at (i := 20) 46 (v := ?_) rfl rfl (by kernel_rfl) (by kernel_rfl) (by kernel_rfl) (fun _ _ _ h => h) (Or.inl ⟨by rfl, ?h20⟩) (by assumption) ?_
        case h20 =>
          intro wx hSw
          try dsimp only at hSw
          go_simp
          try with_reducible rfl
        simp only [List.set_cons_zero, List.set_cons_succ]
        refine take_at (i := 21) 47 (v := ?_) rfl rfl (by kernel_rfl) (by kernel_rfl) (by kernel_rfl) (fun _ _ _ h => h) (Or.inl ⟨by rfl, ?h21⟩) (by assumption) ?_
        case h21 =>
          intro wx hSw
          try dsimp only at hSw
          go_simp
          try with_reducible rfl
        simp only [List.set_cons_zero, List.set_cons_succ]
        refine take_at (i := 22) 48 (v := ?_) rfl rfl (by kernel_rfl) (by kernel_rfl) (by kernel_rfl) (fun _ _ _ h => h) (Or.inl ⟨by rfl, ?h22⟩) (by assumption) ?_
        case h22 =>
          intro wx hSw
          try dsimp only at hSw
          go_simp
          try with_reducible rfl
        simp only [List.set_cons_zero, List.set_cons_succ]
        refine take_at (i := 23) 49 (v := ?_) rfl rfl (by kernel_rfl) (by kernel_rfl) (by kernel_rfl) (fun _ _ _ h => h) (Or.inl ⟨by rfl, ?h23⟩) (by assumption) ?_
        case h23 =>
          intro wx hSw
          try dsimp only at hSw
          go_simp
          try with_reducible rfl
        simp only [List.set_cons_zero, List.set_cons_succ]
        refine wpAnyH_ready (rs := [24]) (by kernel_rfl) (by simp) ?_
        refine AllReadyH.cons rfl (fun K hK => ?_) AllReadyH.nil
        go_simp
        refine (HC.out.leads _ hd3).mono ?_
        rintro r z4 ⟨rfl, hd4⟩
        have hs4 := HC.out.S _ hd4
        dsimp only at hs4
        go_wp2_with fail
        refine hK.out _ _ hs4 (fun hHeld => ?_)
        clear hK K
        refine take_at (i := 25) 51 (v := ?_) rfl rfl (by kernel_rfl) (by kernel_rfl) (by kernel_rfl) (fun _ _ _ h => h) (Or.inl ⟨by rfl, ?h25⟩) (by assumption) ?_
        case h25 =>
          intro wx hSw
          try dsimp only at hSw
          go_simp
          try with_reducible rfl
        simp only [List.set_cons_zero, List.set_cons_succ]
        refine take_at (i := 26) 52 (v := ?_) rfl rfl (by kernel_rfl) (by kernel_rfl) (by kernel_rfl) (fun _ _ _ h => h) (Or.inl ⟨by rfl, ?h26⟩) (by assumption) ?_
        case h26 =>
          intro wx hSw
          try dsimp only at hSw
          go_simp
          try with_reducible rfl
        simp only [List.set_cons_zero, List.set_cons_succ]
        refine wpAnyH_done (by kernel_rfl) ?_ _
        go_wp2
        go_ret2
        exact ⟨k, 11, rfl, MH.out.bad HPL.out HS.out HKT.out (by rw [HO.out]; simp), MH.out.out hd4⟩
      | true =>
      go_wp2_with fail
      refine wp_region_held_drew (S := fun wx => wx.cell? ⟨wr.heap.size, 0, none⟩ = some (.int .i64 op) ∧ wx.cell? ⟨wr.heap.size, 1, none⟩ = some (.int .i64 xa) ∧ wx.cell? ⟨wr.heap.size, 2, none⟩ = some (.int .i64 xb) ∧ wx.cell? ⟨wr.heap.size, 3, none⟩ = some (.int .i64 xc) ∧ wx.cell? ⟨g, k, none⟩ = some (.int .i64 (N : Nat))) (by kernel_rfl) hs0 (fun hHeld => ?_)
      refine take_at (i := 0) 26 (v := ?_) rfl rfl (by kernel_rfl) (by kernel_rfl) (by kernel_rfl) (fun _ _ _ h => h) (Or.inl ⟨by rfl, ?h0⟩) (by assumption) ?_
      case h0 =>
        intro wx hSw
        try dsimp only at hSw
        go_simp
        try with_reducible rfl
      simp only [List.set_cons_zero, List.set_cons_succ]
      refine wpAnyH_ready (rs := [1]) (by kernel_rfl) (by simp) ?_
      refine AllReadyH.cons rfl (fun K hK => ?_) AllReadyH.nil
      go_simp
      refine (HC.out.fits _ HF.out).mono ?_
      rintro r z1 ⟨rfl, hd1⟩
      have hs1 := HC.out.S _ hd1
      dsimp only at hs1
      go_wp2_with fail
      refine hK.out _ _ hs1 (fun hHeld => ?_)
      clear hK K
      refine take_at (i := 2) 28 (v := ?_) rfl rfl (by kernel_rfl) (by kernel_rfl) (by kernel_rfl) (fun _ _ _ h => h) (Or.inl ⟨by rfl, ?h2⟩) (by assumption) ?_
      case h2 =>
        intro wx hSw
        try dsimp only at hSw
        go_simp
        try with_reducible rfl
      simp only [List.set_cons_zero, List.set_cons_succ]
      refine take_at (i := 3) 29 (v := ?_) rfl rfl (by kernel_rfl) (by kernel_rfl) (by kernel_rfl) (fun _ _ _ h => h) (Or.inl ⟨by rfl, ?h3⟩) (by assumption) ?_
      case h3 =>
        intro wx hSw
        try dsimp only at hSw
        go_simp
        try with_reducible rfl
      simp only [List.set_cons_zero, List.set_cons_succ]
      refine take_at (i := 4) 30 (v := ?_) rfl rfl (by kernel_rfl) (by kernel_rfl) (by kernel_rfl) (fun _ _ _ h => h) (Or.inl ⟨by rfl, ?h4⟩) (by assumption) ?_
      case h4 =>
        intro wx hSw
        try dsimp only at hSw
        go_simp
        try with_reducible rfl
      simp only [List.set_cons_zero, List.set_cons_succ]
      refine take_at (i := 5) 31 (v := ?_) rfl rfl (by kernel_rfl) (by kernel_rfl) (by kernel_rfl) (fun _ _ _ h => h) (Or.inl ⟨by rfl, ?h5⟩) (by assumption) ?_
      case h5 =>
        intro wx hSw
        try dsimp only at hSw
        go_simp
        try with_reducible rfl
      simp only [List.set_cons_zero, List.set_cons_succ]
      refine take_at (i := 6) 32 (v := ?_) rfl rfl (by kernel_rfl) (by kernel_rfl) (by kernel_rfl) (fun _ _ _ h => h) (Or.inl ⟨by rfl, ?h6⟩) (by assumption) ?_
      case h6 =>
        intro wx hSw
        try dsimp only at hSw
        go_simp
        try with_reducible rfl
      simp only [List.set_cons_zero, List.set_cons_succ]
      refine take_at (i := 7) 33 (v := ?_) rfl rfl (by kernel_rfl) (by kernel_rfl) (by kernel_rfl) (fun _ _ _ h => h) (Or.inl ⟨by rfl, ?h7⟩) (by assumption) ?_
      case h7 =>
        intro wx hSw
        try dsimp only at hSw
        go_simp
        try with_reducible rfl
      simp only [List.set_cons_zero, List.set_cons_succ]
      refine take_at (i := 8) 34 (v := ?_) rfl rfl (by kernel_rfl) (by kernel_rfl) (by kernel_rfl) (fun _ _ _ h => h) (Or.inl ⟨by rfl, ?h8⟩) (by assumption) ?_
      case h8 =>
        intro wx hSw
        try dsimp only at hSw
        go_simp
        try with_reducible rfl
      simp only [List.set_cons_zero, List.set_cons_succ]
      refine take_at (i := 9) 35 (v := ?_) rfl rfl (by kernel_rfl) (by kernel_rfl) (by kernel_rfl) (fun _ _ _ h => h) (Or.inl ⟨by rfl, ?h9⟩) (by assumption) ?_
      case h9 =>
        intro wx hSw
        try dsimp only at hSw
        go_simp
        try with_reducible rfl
      simp only [List.set_cons_zero, List.set_cons_succ]
      refine take_at (i := 10) 36 (v := ?_) rfl rfl (by kernel_rfl) (by kernel_rfl) (by kernel_rfl) (fun _ _ _ h => h) (Or.inl ⟨by rfl, ?h10⟩) (by assumption) ?_
      case h10 =>
        intro wx hSw
        try dsimp only at hSw
        go_simp
        try with_reducible rfl
      simp only [List.set_cons_zero, List.set_cons_succ]
      refine wpAnyH_ready (rs := [11]) (by kernel_rfl) (by simp) ?_
      refine AllReadyH.cons rfl (fun K hK => ?_) AllReadyH.nil
      go_simp
      refine (HC.out.stands _ hd1).mono ?_
      rintro r z2 ⟨rfl, hd2⟩
      have hs2 := HC.out.S _ hd2
      dsimp only at hs2
      go_wp2_with fail
      refine hK.out _ _ hs2 (fun hHeld => ?_)
      clear hK K
      refine take_at (i := 12) 38 (v := ?_) rfl rfl (by kernel_rfl) (by kernel_rfl) (by kernel_rfl) (fun _ _ _ h => h) (Or.inl ⟨by rfl, ?h12⟩) (by assumption) ?_
      case h12 =>
        intro wx hSw
        try dsimp only at hSw
        go_simp
        try with_reducible rfl
      simp only [List.set_cons_zero, List.set_cons_succ]
      refine take_at (i := 13) 39 (v := ?_) rfl rfl (by kernel_rfl) (by kernel_rfl) (by kernel_rfl) (fun _ _ _ h => h) (Or.inl ⟨by rfl, ?h13⟩) (by assumption) ?_
      case h13 =>
        intro wx hSw
        try dsimp only at hSw
        go_simp
        try with_reducible rfl
      simp only [List.set_cons_zero, List.set_cons_succ]
      refine take_at (i := 14) 40 (v := ?_) rfl rfl (by kernel_rfl) (by kernel_rfl) (by kernel_rfl) (fun _ _ _ h => h) (Or.inl ⟨by rfl, ?h14⟩) (by assumption) ?_
      case h14 =>
        intro wx hSw
        try dsimp only at hSw
        go_simp
        try with_reducible rfl
      simp only [List.set_cons_zero, List.set_cons_succ]
      refine take_at (i := 15) 41 (v := ?_) rfl rfl (by kernel_rfl) (by kernel_rfl) (by kernel_rfl) (fun _ _ _ h => h) (Or.inl ⟨by rfl, ?h15⟩) (by assumption) ?_
      case h15 =>
        intro wx hSw
        try dsimp only at hSw
        go_simp
        try with_reducible rfl
      simp only [List.set_cons_zero, List.set_cons_succ]
      refine take_at (i := 16) 42 (v := ?_) rfl rfl (by kernel_rfl) (by kernel_rfl) (by kernel_rfl) (fun _ _ _ h => h) (Or.inl ⟨by rfl, ?h16⟩) (by assumption) ?_
      case h16 =>
        intro wx hSw
        try dsimp only at hSw
        go_simp
        try with_reducible rfl
      simp only [List.set_cons_zero, List.set_cons_succ]
      refine wpAnyH_ready (rs := [17]) (by kernel_rfl) (by simp) ?_
      refine AllReadyH.cons rfl (fun K hK => ?_) AllReadyH.nil
      go_simp
      refine (HC.out.lets _ hd2).mono ?_
      rintro r z3 ⟨rfl, hd3⟩
      have hs3 := HC.out.S _ hd3
      dsimp only at hs3
      go_wp2_with fail
      refine hK.out _ _ hs3 (fun hHeld => ?_)
      clear hK K
      refine take_at (i := 18) 44 (v := ?_) rfl rfl (by kernel_rfl) (by kernel_rfl) (by kernel_rfl) (fun _ _ _ h => h) (Or.inl ⟨by rfl, ?h18⟩) (by assumption) ?_
      case h18 =>
        intro wx hSw
        try dsimp only at hSw
        go_simp
        try with_reducible rfl
      simp only [List.set_cons_zero, List.set_cons_succ]
      refine take_at (i := 19) 45 (v := ?_) rfl rfl (by kernel_rfl) (by kernel_rfl) (by kernel_rfl) (fun _ _ _ h => h) (Or.inl ⟨by rfl, ?h19⟩) (by assumption) ?_
      case h19 =>
        intro wx hSw
        try dsimp only at hSw
        go_simp
        try with_reducible rfl
      simp only [List.set_cons_zero, List.set_cons_succ]
      refine take_at (i := 20) 46 (v := ?_) rfl rfl (by kernel_rfl) (by kernel_rfl) (by kernel_rfl) (fun _ _ _ h => h) (Or.inl ⟨by rfl, ?h20⟩) (by assumption) ?_
      case h20 =>
        intro wx hSw
        try dsimp only at hSw
        go_simp
        try with_reducible rfl
      simp only [List.set_cons_zero, List.set_cons_succ]
      refine take_at (i := 21) 47 (v := ?_) rfl rfl (by kernel_rfl) (by kernel_rfl) (by kernel_rfl) (fun _ _ _ h => h) (Or.inl ⟨by rfl, ?h21⟩) (by assumption) ?_
      case h21 =>
        intro wx hSw
        try dsimp only at hSw
        go_simp
        try with_reducible rfl
      simp only [List.set_cons_zero, List.set_cons_succ]
      refine take_at (i := 22) 48 (v := ?_) rfl rfl (by kernel_rfl) (by kernel_rfl) (by kernel_rfl) (fun _ _ _ h => h) (Or.inl ⟨by rfl, ?h22⟩) (by assumption) ?_
      case h22 =>
        intro wx hSw
        try dsimp only at hSw
        go_simp
        try with_reducible rfl
      simp only [List.set_cons_zero, List.set_cons_succ]
      refine take_at (i := 23) 49 (v := ?_) rfl rfl (by kernel_rfl) (by kernel_rfl) (by kernel_rfl) (fun _ _ _ h => h) (Or.inl ⟨by rfl, ?h23⟩) (by assumption) ?_
      case h23 =>
        intro wx hSw
        try dsimp only at hSw
        go_simp
        try with_reducible rfl
      simp only [List.set_cons_zero, List.set_cons_succ]
      refine wpAnyH_ready (rs := [24]) (by kernel_rfl) (by simp) ?_
      refine AllReadyH.cons rfl (fun K hK => ?_) AllReadyH.nil
      go_simp
      refine (HC.out.leads _ hd3).mono ?_
      rintro r z4 ⟨rfl, hd4⟩
      have hs4 := HC.out.S _ hd4
      dsimp only at hs4
      go_wp2_with fail
      refine hK.out _ _ hs4 (fun hHeld => ?_)
      clear hK K
      refine take_at (i := 25) 51 (v := ?_) rfl rfl (by kernel_rfl) (by kernel_rfl) (by kernel_rfl) (fun _ _ _ h => h) (Or.inl ⟨by rfl, ?h25⟩) (by assumption) ?_
      case h25 =>
        intro wx hSw
        try dsimp only at hSw
        go_simp
        try with_reducible rfl
      simp only [List.set_cons_zero, List.set_cons_succ]
      refine take_at (i := 26) 52 (v := ?_) rfl rfl (by kernel_rfl) (by kernel_rfl) (by kernel_rfl) (fun _ _ _ h => h) (Or.inl ⟨by rfl, ?h26⟩) (by assumption) ?_
      case h26 =>
        intro wx hSw
        try dsimp only at hSw
        go_simp
        try with_reducible rfl
      simp only [List.set_cons_zero, List.set_cons_succ]
      refine wpAnyH_done (by kernel_rfl) ?_ _
      go_wp2
      go_roundw
      case rel => exact ⟨k + 1, HLT.out, by go_num, MN.out _ hd4 (by rw [HO.out]; rfl)⟩
      case measure => have := HLT.out; simp [intOf]; omega
    · have hkl : k = ps.length := by rw [HL.out]; omega
      have HK := Hid.mk hkl
      clear hkl
      go_wp2
      go_ret2
      refine ⟨0, 0, rfl, .inr (.inr (.inr ⟨HPL.out, HS.out, ?_, rfl, rfl⟩)), M.below⟩
      rw [← HK.out]
      exact M.all

end Go.Proofs.Ytkpbampffndjoaa
