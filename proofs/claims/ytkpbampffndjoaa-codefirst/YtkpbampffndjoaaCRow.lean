/-
  The walks of Blocks and blocksOf.
-/
import Derived.OwnWalk
import Derived.Laws.OwnMore
import Derived.Test.YtkpbampffndjoaaCLeads
namespace Go.Proofs.Ytkpbampffndjoaa
open Go.RowKit

set_option maxRecDepth 100000 in
theorem Try.info3 : (Try.prog.info? 3).map (fun i => (i.zero, i.size, i.bytes)) = some (some (.int .i64 0), 1, 8) := by kernel_rfl

section
variable {ps : List Ins} {k : Nat}

theorem step4 (h : upB ps k = true) (hop : opA ps k = 4) (hz : inB ps k = 0) : bg ps (k + 1) = bg ps k + 1 ∧ inB ps (k + 1) = bg ps k + 1 ∧ upB ps (k + 1) = true := by
  have h1 := upB_at h
  have h2 := (inB_zero h1.1).1 hz
  have h3 : bg ps (k + 1) = bg ps k + 1 := by simp [bg, hop]
  have h4 : en ps (k + 1) = en ps k := by simp [en, hop]
  refine ⟨h3, ?_, ?_⟩
  · unfold inB; rw [h3, h4, if_neg (by omega)]
  · unfold upB; rw [h, h3, h4]; simp; omega

theorem bad4 (h : upB ps k = true) (hop : opA ps k = 4) (hz : inB ps k ≠ 0) (hk : k < ps.length) : shB ps = false := by
  have h1 := upB_at h
  have h2 : bg ps k ≠ en ps k := fun e => hz ((inB_zero h1.1).2 e)
  have h3 : bg ps (k + 1) = bg ps k + 1 := by simp [bg, hop]
  have h4 : en ps (k + 1) = en ps k := by simp [en, hop]
  exact shB_no (k := k + 1) hk (by omega)

theorem step5 (h : upB ps k = true) (hop : opA ps k = 5) (hz : inB ps k ≠ 0) : bg ps (k + 1) = bg ps k ∧ inB ps (k + 1) = 0 ∧ upB ps (k + 1) = true := by
  have h1 := upB_at h
  have h2 : bg ps k ≠ en ps k := fun e => hz ((inB_zero h1.1).2 e)
  have h3 : bg ps (k + 1) = bg ps k := by simp [bg, hop]
  have h4 : en ps (k + 1) = en ps k + 1 := by simp [en, hop]
  refine ⟨h3, ?_, ?_⟩
  · unfold inB; rw [h3, h4, if_pos (by omega)]
  · unfold upB; rw [h, h3, h4]; simp; omega

theorem bad5 (h : upB ps k = true) (hop : opA ps k = 5) (hz : inB ps k = 0) (hk : k < ps.length) : shB ps = false := by
  have h1 := upB_at h
  have h2 := (inB_zero h1.1).1 hz
  have h3 : bg ps (k + 1) = bg ps k := by simp [bg, hop]
  have h4 : en ps (k + 1) = en ps k + 1 := by simp [en, hop]
  exact shB_no (k := k + 1) hk (by omega)

theorem stepO (h : upB ps k = true) (h4 : opA ps k ≠ 4) (h5 : opA ps k ≠ 5) : bg ps (k + 1) = bg ps k ∧ inB ps (k + 1) = inB ps k ∧ upB ps (k + 1) = true := by
  have h1 := upB_at h
  have h3 : bg ps (k + 1) = bg ps k := by simp [bg, h4]
  have h4 : en ps (k + 1) = en ps k := by simp [en, h5]
  refine ⟨h3, ?_, ?_⟩
  · unfold inB; rw [h3, h4]
  · unfold upB; rw [h, h3, h4]; simp; omega

end

/-- The row of blocks, as far as it is laid. -/
def Part (w : World) (g : Nat) (ps : List Ins) (k : Nat) : Prop :=
  ∃ cs : Array Value, w.heap[g]? = some (.cells cs 3 (0, 0)) ∧ cs.size = ps.length + 1 ∧ ∀ j, j ≤ ps.length → cs[j]? = some (.int .i64 ((if j < k then inB ps j else 0 : Nat) : Int))

theorem Part.keep {w w' : World} {g k : Nat} {ps : List Ins} (h : Part w g ps k) (hb : w'.heap[g]? = w.heap[g]?) : Part w' g ps k := by
  obtain ⟨cs, h1, h2⟩ := h
  exact ⟨cs, hb.trans h1, h2⟩
theorem Part.lt {w : World} {g k : Nat} {ps : List Ins} (h : Part w g ps k) : g < w.heap.size := by
  obtain ⟨cs, h1, h2⟩ := h
  exact (Array.getElem?_eq_some_iff.1 h1).1
theorem Part.cell {w : World} {g k : Nat} {ps : List Ins} (h : Part w g ps k) (hk : k ≤ ps.length) : w.cell? ⟨g, k, none⟩ = some (.int .i64 0) := by
  obtain ⟨cs, h1, _, h2⟩ := h
  have := h2 k hk
  rw [if_neg (Nat.lt_irrefl _)] at this
  simp [World.cell?, h1, this]
theorem Part.fz {w : World} {g k : Nat} {ps : List Ins} (h : Part w g ps k) (i : Nat) : w.frozen? ⟨g, i, none⟩ = false := by
  obtain ⟨cs, h1, _⟩ := h
  simp [World.frozen?, h1]
theorem Part.next {w : World} {g k : Nat} {ps : List Ins} (h : Part w g ps k) (hk : k ≤ ps.length) : Part (w.setCell ⟨g, k, none⟩ (.int .i64 (inB ps k : Nat))) g ps (k + 1) := by
  obtain ⟨cs, h1, h2, h3⟩ := h
  refine ⟨_, heap_set _ h1, by simpa using h2, fun j hj => ?_⟩
  by_cases e : j = k
  · subst e
    rw [if_pos (by omega)]
    simp [Array.getElem?_setIfInBounds]
    omega
  · rw [Array.getElem?_setIfInBounds_ne (fun x => e x.symm), h3 j hj]
    by_cases e2 : j < k
    · rw [if_pos e2, if_pos (by omega)]
    · rw [if_neg e2, if_neg (by omega)]
theorem Part.row {w : World} {g : Nat} {ps : List Ins} (h : Part w g ps ps.length) (h0 : inB ps ps.length = 0) : Row w g ps := by
  refine ⟨h.lt, fun j hj => ?_⟩
  obtain ⟨cs, h1, _, h3⟩ := h
  have := h3 j hj
  by_cases e : j < ps.length
  · rw [if_pos e] at this
    simp [World.cell?, h1, this]
  · obtain rfl : j = ps.length := by omega
    rw [if_neg e] at this
    rw [h0]
    simp [World.cell?, h1, this]

theorem Part.made {w : World} {base g L : Nat} {ps : List Ins} (hL : L = ps.length + 1) (h : w.ownsRow base 3 1 (.slice (some ⟨g, 0, none⟩) L L) L (madeCells (Value.cells (.int .i64 0)) (L * 1)).toList) : Part w g ps 0 := by
  rcases h.2 with ⟨e, _⟩ | ⟨g', cap, cur, e, _, hg, _, _, hs, ht⟩
  · cases e
  · simp at e
    obtain ⟨rfl, rfl⟩ := e
    refine ⟨cur, hg, by omega, fun j hj => ?_⟩
    have h1 : j < L * 1 := by omega
    have h2 : (cur.toList.take (L * 1))[j]? = cur[j]? := by
      rw [List.getElem?_take_of_lt h1]
      simp
    rw [← h2, ht]
    have h3 : j < L := by omega
    simp [madeCells, Value.cells, h3, Nat.mod_one]

/-- The walk of blocksOf where there is none. -/
theorem isIns_nil {w : World} {a : Option Addr} {cap : Nat} {ps : List Ins} (h : IsIns w a 0 cap ps) : ps = [] := List.length_eq_zero_iff.1 h.1

structure Mk (w wr : World) (g : Nat) (ps : List Ins) (k : Nat) : Prop where
  below : Below w.heap.size w wr
  part : Part wr g ps k
  up : upB ps k = true

/-- What blocksOf answers. -/
def Told (w : World) (ps : List Ins) (r : Ending) (w' : World) : Prop :=
  Below w.heap.size w w' ∧ ((shB ps = false ∧ ∃ v, r = .returned (.tuple #[v, .bool false])) ∨
    (shB ps = true ∧ ∃ g, w.heap.size ≤ g ∧ r = .returned (.tuple #[.slice (some ⟨g, 0, none⟩) (ps.length + 1) (ps.length + 1), .bool true]) ∧ Row w' g ps))

set_option maxHeartbeats 3200000 in
set_option maxRecDepth 100000 in
theorem blocksOf_any {w : World} {a : Option Addr} {len cap : Nat} {ps : List Ins} (h : IsIns w a len cap ps) (hl : len ≤ 48) :
    Calls Try.prog 15 #[.slice a len cap] w fun r w' => Told w ps r w' := by
  obtain ⟨i0, hi, hz0, hz1, hz2⟩ := info_parts Try.info3
  have HI := Hid.mk h
  have HL := Hid.mk h.1
  have HB8 : i0.bytes = 8 := by rw [hz2]
  clear h
  go_enter Try.func15, Try.ntmps15
  go_wp2_with (at_make; refine wpList_make_full w rfl (.tmp 11) (.tmp 11) 36 rfl w.heap.size 3 i0 _ 1 Try.underlying36 hi hz0 hz1 .i64 .i64 _ _ (len + 1) rfl rfl (by omega) (by omega) (by rw [HB8]; omega) (by unfold maxLen; omega) (Nat.le_refl _) (fun w1 hown hg => ?_))
  have hb1 : Below w.heap.size w w1 := (Below.refl _ _).grown hg (Nat.le_refl _) (fun k hk => by cases hk)
  have hp := Part.made (ps := ps) (by rw [HL.out]) hown
  have M0 : Mk w w1 w.heap.size ps 0 := ⟨hb1, hp, rfl⟩
  clear hown hg hb1 hp
  go_wp2
  go_loopw [5, 6, 7, 8, 15] (fun bgn nw _i _x idx wr => ∃ k : Nat, k ≤ len ∧ idx = .int .i64 k ∧ bgn = .int .i64 (bg ps k : Nat) ∧ nw = .int .i64 (inB ps k : Nat) ∧ Mk w wr w.heap.size ps k) (fun _ _ _ _ idx _ => len - (intOf idx).toNat)
  case atStart => exact ⟨0, Nat.zero_le _, rfl, rfl, rfl, M0⟩
  case round =>
    obtain ⟨k, hk, rfl, rfl, rfl, M⟩ := hrel
    by_cases hlt : k < len
    · obtain ⟨g, off, hae, hat⟩ := (HI.out.carry M.below).at_ (by omega)
      subst hae
      have hkt : k < ps.length := by rw [HL.out]; exact hlt
      have c0 := hat.op k hkt
      have c1 := hat.a k hkt
      have c2 := hat.b k hkt
      have c3 := hat.c k hkt
      have cp := M.part.cell (Nat.le_of_lt hkt)
      have fp := M.part.fz k
      obtain ⟨N, hN⟩ : ∃ N, N = inB ps k := ⟨_, rfl⟩
      obtain ⟨G, hG⟩ : ∃ G, G = bg ps k := ⟨_, rfl⟩
      have hGk : G ≤ 48 := by have := bg_le ps k; omega
      have hgz := M.part.lt
      have hop : opA ps k = ps[k]!.op := rfl
      obtain ⟨x, hx⟩ : ∃ x, x = ps[k]! := ⟨_, rfl⟩
      rw [← hx] at hop c0 c1 c2 c3
      obtain ⟨op, xa, xb, xc⟩ := x
      dsimp only at hop c0 c1 c2 c3
      rw [← hN, ← hG]
      have HN := Hid.mk hN
      have HG := Hid.mk hG
      have HO := Hid.mk hop
      have MH := Hid.mk M
      have next : ∀ o : Obj, Below w.heap.size w ((wr.setCell ⟨w.heap.size, k, none⟩ (.int .i64 (N : Nat))).alloc o) ∧ Part ((wr.setCell ⟨w.heap.size, k, none⟩ (.int .i64 (N : Nat))).alloc o) w.heap.size ps (k + 1) := fun o => by
        have hs : w.heap.size ≤ (wr.setCell ⟨w.heap.size, k, none⟩ (.int .i64 (N : Nat))).heap.size := by have := M.below.size; simpa [World.setCell] using this
        refine ⟨(M.below.setCell (Nat.le_refl _) _).alloc hs _, ?_⟩
        rw [hN]
        exact (M.part.next (Nat.le_of_lt hkt)).keep (Below.heap_alloc _ _ _ (by simpa [World.setCell] using hgz))
      have NX := Hid.mk next
      have HLT := Hid.mk hlt
      have HKT := Hid.mk hkt
      clear hN hG hop hat hx next M HI M0 hkt
      by_cases h4 : op = 4
      · subst h4
        by_cases hz : N = 0
        · have z1 : ((N : Int) != 0) = false := by simp [hz]
          have HZ := Hid.mk hz
          clear hz
          go_wp2
          go_roundw
          case rel =>
            obtain ⟨e1, e2, e3⟩ := step4 MH.out.up HO.out (by rw [← HN.out]; exact HZ.out)
            exact ⟨k + 1, HLT.out, by go_num, by rw [e1, ← HG.out]; go_num, by rw [e2, ← HG.out]; go_num, (NX.out _).1, (NX.out _).2, e3⟩
          case measure => have := HLT.out; simp [intOf]; omega
        · have z1 : ((N : Int) != 0) = true := by simpa using hz
          have HZ := Hid.mk hz
          clear hz
          go_wp2
          go_ret2
          exact ⟨(NX.out _).1, .inl ⟨bad4 MH.out.up HO.out (by rw [← HN.out]; exact HZ.out) HKT.out, _, rfl⟩⟩
      by_cases h5 : op = 5
      · subst h5
        by_cases hz : N = 0
        · have z1 : ((N : Int) == 0) = true := by simp [hz]
          have HZ := Hid.mk hz
          clear hz
          go_wp2
          go_ret2
          exact ⟨(NX.out _).1, .inl ⟨bad5 MH.out.up HO.out (by rw [← HN.out]; exact HZ.out) HKT.out, _, rfl⟩⟩
        · have z1 : ((N : Int) == 0) = false := by simpa using hz
          have HZ := Hid.mk hz
          clear hz
          go_wp2
          go_roundw
          case rel =>
            obtain ⟨e1, e2, e3⟩ := step5 MH.out.up HO.out (by rw [← HN.out]; exact HZ.out)
            exact ⟨k + 1, HLT.out, by go_num, by rw [e1, ← HG.out], by rw [e2]; rfl, (NX.out _).1, (NX.out _).2, e3⟩
          case measure => have := HLT.out; simp [intOf]; omega
      have H4 := Hid.mk h4
      have H5 := Hid.mk h5
      go_wp2
      go_roundw
      case rel =>
        obtain ⟨e1, e2, e3⟩ := stepO MH.out.up (by rw [HO.out]; exact H4.out) (by rw [HO.out]; exact H5.out)
        exact ⟨k + 1, HLT.out, by go_num, by rw [e1, ← HG.out], by rw [e2, ← HN.out], (NX.out _).1, (NX.out _).2, e3⟩
      case measure => have := HLT.out; simp [intOf]; omega
    · have hkl : k = ps.length := by rw [HL.out]; omega
      have hup := upB_at M.up
      have hlen : (ps.length + 1) = len + 1 := by rw [HL.out]
      obtain ⟨N, hN⟩ : ∃ N, N = inB ps k := ⟨_, rfl⟩
      rw [← hN]
      have HN := Hid.mk hN
      have MH := Hid.mk M
      have HK := Hid.mk hkl
      have HU := Hid.mk hup
      have HE := Hid.mk hlen
      clear hN hkl hup M HI M0 hlen
      by_cases hz : N = 0
      · have z1 : ((N : Int) == 0) = true := by simp [hz]
        have HZ := Hid.mk hz
        clear hz
        go_wp2
        go_ret2
        have e0 : inB ps k = 0 := by rw [← HN.out]; exact HZ.out
        have e1 := (inB_zero HU.out.1).1 e0
        have M := MH.out
        have hK := HK.out
        refine ⟨M.below, .inr ⟨?_, _, Nat.le_refl _, by rw [HE.out]; rfl, ?_⟩⟩
        · unfold shB
          rw [← hK, M.up, e1]
          simp
        · have hp := M.part
          rw [hK] at hp e0
          exact hp.row e0
      · have z1 : ((N : Int) == 0) = false := by simpa using hz
        have HZ := Hid.mk hz
        clear hz
        go_wp2
        go_ret2
        have e0 : inB ps k ≠ 0 := by rw [← HN.out]; exact HZ.out
        have hK := HK.out
        refine ⟨MH.out.below, .inl ⟨?_, _, rfl⟩⟩
        unfold shB
        rw [← hK]
        simp
        intro _ e
        exact e0 ((inB_zero HU.out.1).2 e)

set_option maxHeartbeats 1600000 in
set_option maxRecDepth 100000 in
theorem blocks_any {w : World} {a : Option Addr} {len cap : Nat} {ps : List Ins} (h : IsIns w a len cap ps) (hl : len ≤ 100) :
    Calls Try.prog 12 #[.slice a len cap] w fun r w' => r = .returned (.int .i64 (bg ps len : Nat)) ∧ Below w.heap.size w w' := by
  have HI := Hid.mk h
  have HL := Hid.mk h.1
  clear h
  go_enter Try.func12, Try.ntmps12
  go_wp2
  go_loopw [3, 5, 8] (fun n _x idx wr => ∃ k : Nat, k ≤ len ∧ idx = .int .i64 k ∧ n = .int .i64 (bg ps k : Nat) ∧ Below w.heap.size w wr) (fun _ _ idx _ => len - (intOf idx).toNat)
  case atStart => exact ⟨0, Nat.zero_le _, rfl, rfl, Below.refl _ _⟩
  case round =>
    obtain ⟨k, hk, rfl, rfl, hb⟩ := hrel
    by_cases hlt : k < len
    · obtain ⟨g, off, hae, hat⟩ := (HI.out.carry hb).at_ (by omega)
      subst hae
      have hkt : k < ps.length := by rw [HL.out]; exact hlt
      have c0 := hat.op k hkt
      have c1 := hat.a k hkt
      have c2 := hat.b k hkt
      have c3 := hat.c k hkt
      obtain ⟨G, hG⟩ : ∃ G, G = bg ps k := ⟨_, rfl⟩
      have hGk : G ≤ 100 := by have := bg_le ps k; omega
      have hop : opA ps k = ps[k]!.op := rfl
      obtain ⟨x, hx⟩ : ∃ x, x = ps[k]! := ⟨_, rfl⟩
      rw [← hx] at hop c0 c1 c2 c3
      obtain ⟨op, xa, xb, xc⟩ := x
      dsimp only at hop c0 c1 c2 c3
      rw [← hG]
      have HG := Hid.mk hG
      have HO := Hid.mk hop
      have HLT := Hid.mk hlt
      clear hG hop hat hx HI hkt
      by_cases h4 : op = 4
      · subst h4
        have e1 : bg ps (k + 1) = G + 1 := by rw [HG.out]; simp [bg, HO.out]
        have E1 := Hid.mk e1
        clear e1
        go_wp2
        go_roundw
        case rel => exact ⟨k + 1, HLT.out, by go_num, by rw [E1.out]; go_num, hb.alloc hb.size _⟩
        case measure => have := HLT.out; simp [intOf]; omega
      · have e1 : bg ps (k + 1) = G := by rw [HG.out]; simp [bg, HO.out, h4]
        have E1 := Hid.mk e1
        clear e1
        go_wp2
        go_roundw
        case rel => exact ⟨k + 1, HLT.out, by go_num, by rw [E1.out], hb.alloc hb.size _⟩
        case measure => have := HLT.out; simp [intOf]; omega
    · have hkl : k = len := by omega
      have HK := Hid.mk hkl
      clear hkl HI
      go_wp2
      go_ret
      exact ⟨by rw [HK.out]; rfl, hb⟩

end Go.Proofs.Ytkpbampffndjoaa
