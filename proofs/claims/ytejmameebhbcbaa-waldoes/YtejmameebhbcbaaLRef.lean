/-
  The document's log, in memory; the walks of its Text, Whole, Open, Append and Clear.
-/
import Derived.Deep.QuietTactic
import Derived.BigQuiet
import Derived.Test.YtejmameebhbcbaaDRefC
import Derived.Test.YtejmameebhbcbaaLScript
import Derived.Test.YtejmameebhbcbaaLRow
namespace Go.Proofs.Ytejmameebhbcbaa
open Go.RowKit

/-- The document's log in block rl, on area o of the document's disk in block m. -/
structure RLog (w : World) (rl m : Nat) (o tn : Bool) : Prop where
  at_ : w.heap[rl]? = some (.cells #[.pointer (some ⟨m, 0, none⟩), .int .i64 (ar o), .bool tn] 47 (0, 0))

theorem rowB_len : ∀ (l : List ByteArray), Small l → (rowB l).length = wholeN l
  | [], _ => rfl
  | s :: l, h => by
    have h1 : s.size ≤ 1024 := h s (by simp)
    have h2 := rowB_len l fun t ht => h t (by simp [ht])
    rw [rowB, List.length_append, h2, recB_length (by rw [size_list]; omega), size_list]
    rfl

theorem sumT_whole : ∀ (l : List ByteArray), sumT l ≤ wholeN l
  | [] => Nat.le_refl _
  | s :: l => by
    have := sumT_whole l
    simp only [sumT, wholeN]
    omega

section
variable {w w' : World} {rl m : Nat} {v v' : Value} {o tn : Bool} {dn ws : List Ch} {all : List Ch} {sf : Nat}

theorem RLog.lt (h : RLog w rl m o tn) : rl < w.heap.size := (Array.getElem?_eq_some_iff.1 h.at_).1
theorem RLog.c0 (h : RLog w rl m o tn) : w.cell? ⟨rl, 0, none⟩ = some (.pointer (some ⟨m, 0, none⟩)) := by simp [World.cell?, h.at_]
theorem RLog.c1 (h : RLog w rl m o tn) : w.cell? ⟨rl, 1, none⟩ = some (.int .i64 (ar o)) := by simp [World.cell?, h.at_]
theorem RLog.c2 (h : RLog w rl m o tn) : w.cell? ⟨rl, 2, none⟩ = some (.bool tn) := by simp [World.cell?, h.at_]
theorem RLog.fz (h : RLog w rl m o tn) (i : Nat) : w.frozen? ⟨rl, i, none⟩ = false := by simp [World.frozen?, h.at_]
theorem RLog.carry (h : RLog w rl m o tn) (hb : w'.heap[rl]? = w.heap[rl]?) : RLog w' rl m o tn := ⟨hb.trans h.at_⟩
theorem RLog.grown (h : RLog w rl m o tn) (hb : Below w.heap.size w w') : RLog w' rl m o tn := h.carry (hb.block rl h.lt)
theorem RLog.drew (h : RLog w rl m o tn) : RLog w.drew rl m o tn := ⟨h.at_⟩
theorem Ref.drew (h : Ref w m v all sf) : Ref w.drew m v all sf := h.carry rfl fun _ _ => rfl

/-- A block of another type is none of the document's disk's. -/
theorem Ref.not (h : Ref w m v all sf) {k : Nat} {cs : Array Value} {t : TypeId} {mm : Nat × Nat} (hk : w.heap[k]? = some (.cells cs t mm)) (h1 : t ≠ 51) (h2 : t ≠ 80) : k ≠ m ∧ v.ownBlock ≠ some k := by
  refine ⟨ne_block hk h.at_ h1, fun e => ?_⟩
  obtain ⟨cur, hc⟩ := own_block h.owns k e
  exact ne_block hk hc h2 rfl
theorem Wrote.otherR (hw : Wrote m v w v' w') (h : Ref w m v all sf) {k : Nat} {cs : Array Value} {t : TypeId} {mm : Nat × Nat} (hk : w.heap[k]? = some (.cells cs t mm)) (h1 : t ≠ 51) (h2 : t ≠ 80) : w'.heap[k]? = w.heap[k]? :=
  hw.block k (Array.getElem?_eq_some_iff.1 hk).1 (h.not hk h1 h2).1 (h.not hk h1 h2).2
theorem WroteL.otherR {m0 : Nat} (hw : WroteL rl m v w v' w') (h : Ref w m v all sf) (hl : RLog w rl m0 o tn) {k : Nat} {cs : Array Value} {t : TypeId} {mm : Nat × Nat} (hk : w.heap[k]? = some (.cells cs t mm)) (h1 : t ≠ 51) (h2 : t ≠ 80) (h3 : t ≠ 47) : w'.heap[k]? = w.heap[k]? :=
  hw.block k (Array.getElem?_eq_some_iff.1 hk).1 (ne_block hk hl.at_ h3) (h.not hk h1 h2).1 (h.not hk h1 h2).2
theorem RLog.disk {m0 : Nat} (hl : RLog w rl m0 o tn) (h : Ref w m v all sf) (hw : Wrote m v w v' w') : RLog w' rl m0 o tn := hl.carry (hw.otherR h hl.at_ (by decide) (by decide))

set_option maxHeartbeats 1600000 in
theorem refText_any (hl : RLog w rl m o tn) (h : Ref w m v (dn ++ ws) dn.length) (hf : Fits (dn ++ ws)) (hn : (dn ++ ws).length ≤ 1000000) :
    Calls Try.prog 22 #[.pointer (some ⟨rl, 0, none⟩)] w fun e w' => e = .returned (.string (txt o (dn ++ ws))) ∧ Below w.heap.size w w' := by
  have c0 := hl.c0
  have c1 := hl.c1
  have d0 := h.c0
  obtain ⟨va, vc, rfl⟩ := h.slice
  have ht : ∀ n, Calls Try.prog 24 #[.pointer (some ⟨m, 0, none⟩), .int .i64 (ar o), .int .i64 ((dn ++ ws).length : Nat)] (w.drewN n) fun e w' => e = .returned (.string (txt o (dn ++ ws))) ∧ w' = w.drewN n := fun n => by
    have := text_any o (dn ++ ws).length (h.grown (below_drewN (Below.refl _ _) n)) hf (Nat.le_refl _) hn
    rw [List.take_length] at this
    exact this
  obtain ⟨T, hT⟩ : ∃ T, T = txt o (dn ++ ws) := ⟨_, rfl⟩
  obtain ⟨N, hN⟩ : ∃ N, N = (dn ++ ws).length := ⟨_, rfl⟩
  rw [← hN] at d0 ht
  rw [← hT] at ht
  rw [← hT]
  have HT := Hid.mk ht
  clear ht hT h hf hl hN hn
  go_enter Try.func22, Try.ntmps22
  go_wp2_with fail
  go_quiet ((go_at_call 24; exact Calls.quiet_of_same (HT.out _)))
  go_wp2
  go_ret
  exact ⟨rfl, below_drewN (Below.refl _ _) _⟩

set_option maxHeartbeats 800000 in
theorem refWhole_any (hl : RLog w rl m o tn) (h : Ref w m v (dn ++ ws) dn.length) (hf : Fits (dn ++ ws)) (hn : (dn ++ ws).length ≤ 1000000) (L : List ByteArray) (hL : AllOf (txt o (dn ++ ws)).data.toList L) :
    Calls Try.prog 26 #[.pointer (some ⟨rl, 0, none⟩)] w fun e w' => e = .returned (.int .i64 (wholeN L : Nat)) ∧ Below w.heap.size w w' := by
  have hs := hf.all o
  have hw := hL.whole
  rw [size_list] at hw
  have hwl := wholeN_len L
  have hst := sumT_whole L
  have hrl := rowB_len L hL.small
  have HL := Hid.mk hL
  have HR : Hid (((⟨(rowB L).toArray⟩ : ByteArray).size : Int) = ((wholeN L : Nat) : Int)) := Hid.mk (by rw [str_size, hrl])
  clear hL hrl
  go_enter Try.func26, Try.ntmps26
  go_wp2_with fail
  refine (refText_any hl h hf hn).mono ?_
  rintro e w1 ⟨rfl, hb1⟩
  go_wp2_with fail
  refine (refAll_any _ _ (by omega)).mono ?_
  rintro e w2 ⟨v2, L2, rfl, hL2, hown2, hb2⟩
  have e2 := hL2.one HL.out
  subst e2
  have hb3 := hb1.trans (hb2.mono hb1.size)
  obtain ⟨a, cap, rfl, ht⟩ := texts_of_row hown2
  clear hb1 hb2 hown2 hL2
  go_wp2_with fail
  refine (refRow_any a L2.length cap L2 _ ht (by omega) (by omega)).mono ?_
  rintro e w3 ⟨rfl, hb4⟩
  have hb5 := hb3.trans (hb4.mono hb3.size)
  clear hb3 hb4 ht
  obtain ⟨R, hR⟩ : ∃ R : ByteArray, R = ⟨(rowB L2).toArray⟩ := ⟨_, rfl⟩
  rw [← hR] at HR
  rw [← hR]
  clear hR
  go_wp2
  go_ret
  exact ⟨ret_int HR.out, hb5⟩

set_option maxHeartbeats 800000 in
theorem refOpen4_any (o : Bool) (h : Ref w m v (dn ++ ws) dn.length) (hf : Fits (dn ++ ws)) (hn : (dn ++ ws).length ≤ 1000000) (L : List ByteArray) (hL : AllOf (txt o (dn ++ ws)).data.toList L) :
    Calls Try.prog 39 #[.pointer (some ⟨m, 0, none⟩), .int .i64 (ar o)] w fun e w' => e = .returned (.pointer (some ⟨w.heap.size, 0, none⟩)) ∧
      RLog w' w.heap.size m o (isTorn (txt o (dn ++ ws)) L) ∧ Below w.heap.size w w' := by
  have hb0 := (Below.refl w.heap.size w).alloc (Nat.le_refl _) (.cells #[.pointer (some ⟨m, 0, none⟩), .int .i64 (ar o), .bool false] 47)
  have hD := h.grown hb0
  have hl : RLog (w.alloc (.cells #[.pointer (some ⟨m, 0, none⟩), .int .i64 (ar o), .bool false] 47)) w.heap.size m o false := ⟨heap_alloc_new w _⟩
  have HL := Hid.mk hL
  clear hL
  go_enter Try.func39, Try.ntmps39
  go_wp2_with fail
  refine (refWhole_any hl hD hf hn L HL.out).mono ?_
  rintro e w1 ⟨rfl, hb1⟩
  have hD1 := hD.grown hb1
  have hl1 := hl.grown hb1
  have hb2 := hb0.trans (hb1.mono (by simp))
  clear hD hl hb0 hb1
  go_wp2_with fail
  refine (refText_any hl1 hD1 hf hn).mono ?_
  rintro e w2 ⟨rfl, hb3⟩
  have hl2 := hl1.grown hb3
  have hb4 := hb2.trans (hb3.mono hb2.size)
  have c2 := hl2.c2
  have f2 := hl2.fz 2
  have HB := Hid.mk hb4
  have HL2 := Hid.mk hl2
  clear hb4 hb3 hb2 hl1 hD1 hl2
  obtain ⟨T, hT⟩ : ∃ T, T = txt o (dn ++ ws) := ⟨_, rfl⟩
  rw [← hT]
  have HT := Hid.mk hT
  clear hT
  go_wp2
  go_ret
  refine ⟨rfl, ⟨?_⟩, HB.out.setCell (p := ⟨w.heap.size, 2, none⟩) (Nat.le_refl _) _⟩
  rw [heap_set _ HL2.out.at_, ← HT.out]
  simp [isTorn]

/-- The document's disk's Append of a record, whatever it answers. -/
theorem rdappend_any (o : Bool) (s : ByteArray) (hs : s.size ≤ 1024) (h : Ref w m v (dn ++ ws) dn.length) (hf : Fits (dn ++ ws)) (hn : (dn ++ ws).length ≤ 1000000) :
    Calls Try.prog 43 #[.pointer (some ⟨m, 0, none⟩), .int .i64 (ar o), .string (recOf s)] w fun e w' => e = .returned (.int .i64 (stepL o false s dn ws).1) ∧
      ∃ v', Ref w' m v' (dn ++ (stepL o false s dn ws).2) dn.length ∧ Wrote m v w v' w' := by
  have hr := recOf_size s
  unfold stepL
  rw [if_neg (by omega), if_neg (by simp)]
  by_cases hfu : 16384 < (txt o (dn ++ ws)).size + (recOf s).size
  · rw [if_pos hfu]
    exact (refAppend_full o _ h hf (by omega) hfu hn).mono fun e w' ⟨he, hw⟩ => ⟨he, v, by rw [hw]; exact h, by rw [hw]; exact Wrote.refl _ _ _⟩
  · rw [if_neg hfu]
    have hR := refAppend_raw o (ar o) (ar_cases o) (recOf s) h hf (by omega) hn
    rw [List.append_assoc] at hR
    exact hR

set_option maxHeartbeats 1600000 in
theorem refAppend4_any (s : ByteArray) (hl : RLog w rl m o tn) (h : Ref w m v (dn ++ ws) dn.length) (hf : Fits (dn ++ ws)) (hs : s.size ≤ 1099511627776) (hn : (dn ++ ws).length ≤ 1000000) :
    Calls Try.prog 40 #[.pointer (some ⟨rl, 0, none⟩), .string s] w fun e w' => e = .returned (.int .i64 (stepL o tn s dn ws).1) ∧
      ∃ v', Ref w' m v' (dn ++ (stepL o tn s dn ws).2) dn.length ∧ Wrote m v w v' w' := by
  by_cases hlong : 1024 < s.size
  · have e : stepL o tn s dn ws = (3, ws) := by unfold stepL; rw [if_pos hlong]
    rw [e]
    go_enter Try.func40, Try.ntmps40
    go_wp2
    go_ret
    exact ⟨rfl, v, h, Wrote.refl _ _ _⟩
  have c2 := hl.c2
  cases tn with
  | true =>
    have e : stepL o true s dn ws = (9, ws) := by unfold stepL; rw [if_neg hlong]; rfl
    rw [e]
    go_enter Try.func40, Try.ntmps40
    go_wp2
    go_ret
    exact ⟨rfl, v, h, Wrote.refl _ _ _⟩
  | false =>
    have c0 := hl.c0
    have c1 := hl.c1
    obtain ⟨st, hst⟩ : ∃ st, st = stepL o false s dn ws := ⟨_, rfl⟩
    have hA : ∀ w', Below w.heap.size w w' → Calls Try.prog 43 #[.pointer (some ⟨m, 0, none⟩), .int .i64 (ar o), .string (recOf s)] w' fun e w2 => e = .returned (.int .i64 st.1) ∧ ∃ v', Ref w2 m v' (dn ++ st.2) dn.length ∧ Wrote m v w v' w2 := fun w' hb' => by
      rw [hst]
      exact (rdappend_any o s (by omega) (h.grown hb') hf hn).mono fun e w2 ⟨he, v', h1, h2⟩ => ⟨he, v', h1, (Wrote.of_below hb').trans h2⟩
    rw [← hst]
    have HA := Hid.mk hA
    have HH := Hid.mk h
    have HL := Hid.mk hl
    have hlt := hl.lt
    clear hA hst h hl hf hn
    go_enter Try.func40, Try.ntmps40
    go_wp2_with fail
    go_region_held3 (fun wx => wx.cell? ⟨rl, 0, none⟩ = some (.pointer (some ⟨m, 0, none⟩)) ∧ wx.cell? ⟨rl, 1, none⟩ = some (.int .i64 (ar o)))
      (first
        | exact ⟨c0, c1⟩
        | exact hS2
        | exact hS1)
      ((first
        | (have := m1; go_at_call 43; refine (HA.out _ hb1).mono ?_; rintro e w2 ⟨rfl, v2, h2, hw2⟩; have hl2 := HL.out.disk HH.out hw2; have hS2 := And.intro hl2.c0 hl2.c1; clear hl2)
        | (go_at_call 53; refine (refClose_any _ s (by omega)).mono ?_; rintro e w1 ⟨rfl, hb0⟩; have hb1 := (Below.refl w.heap.size w).drew.trans hb0; have hl1 := HL.out.grown hb1; have hS1 := And.intro hl1.c0 hl1.c1; have m1 := Hid.mk trivial; clear hl1 hb0)))
    have H2 := Hid.mk h2
    have HW := Hid.mk hw2
    clear h2 hw2 hS1 hS2 m1 hb1
    go_wp2
    go_ret
    exact ⟨rfl, v2, H2.out, HW.out⟩

set_option maxHeartbeats 800000 in
theorem refClear4_any (hl : RLog w rl m o tn) (h : Ref w m v (dn ++ ws) dn.length) (hn : (dn ++ ws).length ≤ 1000000) :
    Calls Try.prog 41 #[.pointer (some ⟨rl, 0, none⟩)] w fun e w' => e = .returned (.tuple #[]) ∧
      ∃ v', Ref w' m v' (dn ++ (ws ++ [⟨o, true, ⟨#[]⟩⟩])) dn.length ∧ RLog w' rl m o false ∧ WroteL rl m v w v' w' := by
  have c0 := hl.c0
  have c1 := hl.c1
  have hD := h.drew
  have hlD := hl.drew
  have hR := refReset_raw o (ar o) (ar_cases o) hD hn
  rw [List.append_assoc] at hR
  have HR := Hid.mk hR
  clear hR
  go_enter Try.func41, Try.ntmps41
  go_wp2_with fail
  go_region_with ((go_at_call 54; refine HR.out.mono ?_; rintro e w1 ⟨rfl, v1, h1, hw1⟩))
  all_goals
    have hl1 := hlD.disk hD hw1
    have d2 := hl1.c2
    have g2 := hl1.fz 2
    have hw2 : Wrote m v w v1 w1 := (Wrote.of_below ((Below.refl _ _).drew)).trans hw1
    have hne := h1.not hl1.at_ (by decide) (by decide)
    have H1 := Hid.mk h1
    have HW := Hid.mk hw2
    have HL1 := Hid.mk hl1
    have HN := Hid.mk hne
    clear h1 hw1 hl1 hw2 hne hD hlD c0 c1
    go_wp2
    go_end0
    refine ⟨rfl, v1, H1.out.carry (Below.heap_setCell _ _ _ _ (Ne.symm HN.out.1)) (fun k hk => Below.heap_setCell _ _ _ _ (fun e => HN.out.2 (by rw [← show k = rl from e]; exact hk))), ⟨?_⟩, ?_⟩
    · rw [heap_set _ HL1.out.at_]; simp
    · have := HW.out
      refine ⟨this.os, this.tape, this.output, by have := this.size; simpa [World.setCell] using this, fun k hk h0 h1 h2 => ?_, this.own⟩
      rw [Below.heap_setCell _ _ _ _ h0]
      exact this.block k hk h1 h2

end

end Go.Proofs.Ytejmameebhbcbaa
