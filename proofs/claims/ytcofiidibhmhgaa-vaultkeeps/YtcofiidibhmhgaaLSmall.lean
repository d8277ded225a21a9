/-
  The walks of the log's now, Size, Torn, Area, All, Open, Force and Clear.
-/
import Derived.Test.YtcofiidibhmhgaaLMem
namespace Go.Proofs.Ytcofiidibhmhgaa
open Go.RowKit

section
variable {w : World} {lb b : Nat} {v : Value} {o tn : Bool} {dn ws : List Ch}

set_option maxHeartbeats 800000 in
set_option maxRecDepth 100000 in
theorem now_any (hl : LogAt w lb b o tn) (h : Has w b v dn ws) :
    Calls Try.prog 41 #[.pointer (some ⟨lb, 0, none⟩)] w fun e w' => e = .returned (.string (txt o (dn ++ ws))) ∧ Below w.heap.size w w' := by
  have c0 := hl.c0
  have c1 := hl.c1
  have hD := h.drew
  go_enter Try.func41, Try.ntmps41
  go_wp2_with fail
  go_region_with ((go_at_call 26; refine (read_yes o hD).mono ?_; rintro e w1 ⟨rfl, rfl⟩))
  all_goals
    go_wp2
    go_ret
    exact ⟨rfl, (Below.refl _ _).drew⟩

set_option maxRecDepth 100000 in
theorem now_nil (w : World) : Calls Try.prog 41 #[.pointer none] w fun e w' => e = .returned (.string ⟨#[]⟩) ∧ w' = w := by
  go_enter Try.func41, Try.ntmps41
  go_wp2
  go_ret
  exact ⟨rfl, rfl⟩

theorem none_empty : AllOf (⟨#[]⟩ : ByteArray).data.toList [] := fun m hb => by
  have := hb.size
  simp at this

set_option maxHeartbeats 400000 in
set_option maxRecDepth 100000 in
theorem size_any (hl : LogAt w lb b o tn) (h : Has w b v dn ws) (L : List ByteArray) (hL : AllOf (txt o (dn ++ ws)).data.toList L) :
    Calls Try.prog 37 #[.pointer (some ⟨lb, 0, none⟩)] w fun e w' => e = .returned (.int .i64 (wholeN L : Nat)) ∧ Below w.heap.size w w' := by
  have hs := h.fits.all o
  have HL := Hid.mk hL
  clear hL
  go_enter Try.func37, Try.ntmps37
  go_wp2_with fail
  refine (now_any hl h).mono ?_
  rintro e w1 ⟨rfl, hb1⟩
  go_wp2_with fail
  refine (whole_any _ _ L (by omega) HL.out).mono ?_
  rintro e w2 ⟨rfl, hb2⟩
  go_wp2
  go_ret
  exact ⟨rfl, hb1.trans (hb2.mono hb1.size)⟩

set_option maxHeartbeats 400000 in
set_option maxRecDepth 100000 in
theorem size_nil (w : World) : Calls Try.prog 37 #[.pointer none] w fun e w' => e = .returned (.int .i64 0) ∧ Below w.heap.size w w' := by
  go_enter Try.func37, Try.ntmps37
  go_wp2_with fail
  refine (now_nil _).mono ?_
  rintro e w1 ⟨rfl, rfl⟩
  go_wp2_with fail
  refine (whole_any _ _ [] (by decide) none_empty).mono ?_
  rintro e w2 ⟨rfl, hb2⟩
  go_wp2
  go_ret
  exact ⟨rfl, hb2⟩









/-- Is an area with these records torn? -/
def isTorn (x : ByteArray) (L : List ByteArray) : Bool := decide (wholeN L < x.size)

set_option maxHeartbeats 800000 in
set_option maxRecDepth 100000 in
theorem walOpen_yes (o : Bool) (h : Has w b v dn ws) (L : List ByteArray) (hL : AllOf (txt o (dn ++ ws)).data.toList L) :
    Calls Try.prog 29 #[.pointer (some ⟨b, 0, none⟩), .int .i64 (ar o)] w fun e w' => e = .returned (.tuple #[.pointer (some ⟨w.heap.size, 0, none⟩), .int .i64 0]) ∧
      LogAt w' w.heap.size b o (isTorn (txt o (dn ++ ws)) L) ∧ Below w.heap.size w w' := by
  have h0 : ¬ ar o < 0 := by cases o <;> decide
  have h2 : ¬ 2 ≤ ar o := by cases o <;> decide
  have hD := h.alloc (.cells #[.pointer (some ⟨b, 0, none⟩), .int .i64 (ar o), .bool false] 76)
  have hl : LogAt (w.alloc (.cells #[.pointer (some ⟨b, 0, none⟩), .int .i64 (ar o), .bool false] 76)) w.heap.size b o false := ⟨heap_alloc_new w _⟩
  have hb0 := (Below.refl w.heap.size w).alloc (Nat.le_refl _) (.cells #[.pointer (some ⟨b, 0, none⟩), .int .i64 (ar o), .bool false] 76)
  have HL := Hid.mk hL
  clear hL
  go_enter Try.func29, Try.ntmps29
  go_wp2_with fail
  refine (size_any hl hD L HL.out).mono ?_
  rintro e w1 ⟨rfl, hb1⟩
  have hD1 := hD.grown hb1
  have hl1 := hl.grown hb1
  have hb2 := hb0.trans (hb1.mono (by simp))
  clear hD hl hb0 hb1
  go_wp2_with fail
  refine (now_any hl1 hD1).mono ?_
  rintro e w2 ⟨rfl, hb3⟩
  have hl2 := hl1.grown hb3
  have hb4 := hb2.trans (hb3.mono hb2.size)
  have c2 := hl2.c2
  have f2 := hl2.fz 2
  have HB := Hid.mk hb4
  have HL2 := Hid.mk hl2
  clear hb4 hb3 hb2 hl1 hD1 hl2
  obtain ⟨T, hT⟩ : ∃ T, T = txt o (dn ++ ws) := ⟨_, rfl⟩
  rw [← hT]
  have HT := Hid.mk hT
  clear hT
  go_wp2
  go_ret2
  refine ⟨rfl, ⟨?_⟩, HB.out.setCell (p := ⟨w.heap.size, 2, none⟩) (Nat.le_refl _) _⟩
  rw [heap_set _ HL2.out.at_, ← HT.out]
  simp [isTorn]

set_option maxRecDepth 100000 in
theorem walOpen_nil (a : Int) (w : World) :
    Calls Try.prog 29 #[.pointer none, .int .i64 a] w fun e w' => e = .returned (.tuple #[.pointer none, .int .i64 2]) ∧ w' = w := by
  go_enter Try.func29, Try.ntmps29
  go_wp2
  go_ret2
  exact ⟨rfl, rfl⟩

set_option maxRecDepth 100000 in
theorem walOpen_no (a : Int) (h0 : a ≠ 0) (h1 : a ≠ 1) (p : Addr) (w : World) :
    Calls Try.prog 29 #[.pointer (some p), .int .i64 a] w fun e w' => e = .returned (.tuple #[.pointer none, .int .i64 1]) ∧ w' = w := by
  by_cases h2 : a < 0
  · go_enter Try.func29, Try.ntmps29
    go_wp2
    go_ret2
    exact ⟨rfl, rfl⟩
  · have h3 : 2 ≤ a := by omega
    go_enter Try.func29, Try.ntmps29
    go_wp2
    go_ret2
    exact ⟨rfl, rfl⟩

set_option maxHeartbeats 400000 in
set_option maxRecDepth 100000 in
theorem force_any (hl : LogAt w lb b o tn) (h : Has w b v dn ws) :
    Calls Try.prog 38 #[.pointer (some ⟨lb, 0, none⟩)] w fun e w' => e = .returned (.tuple #[]) ∧ Has w' b (.slice none 0 0) (dn ++ ws) [] ∧ Wrote b v w (.slice none 0 0) w' := by
  have c0 := hl.c0
  go_enter Try.func38, Try.ntmps38
  go_wp2_with fail
  refine (sync_any h).mono ?_
  rintro e w1 ⟨rfl, R⟩
  have HR := Hid.mk R
  clear R
  go_wp2
  go_end0
  exact ⟨rfl, HR.out⟩

set_option maxRecDepth 100000 in
theorem force_nil (w : World) : Calls Try.prog 38 #[.pointer none] w fun e w' => e = .returned (.tuple #[]) ∧ w' = w := by
  go_enter Try.func38, Try.ntmps38
  go_wp2
  refine bodyPost_ret (results_none rfl _ _ _) rfl ?_
  exact ⟨rfl, rfl⟩

set_option maxHeartbeats 800000 in
set_option maxRecDepth 100000 in
theorem clear_any (hl : LogAt w lb b o tn) (h : Has w b v dn ws) (hn : ws.length ≤ 1000000) :
    Calls Try.prog 51 #[.pointer (some ⟨lb, 0, none⟩)] w fun e w' => e = .returned (.tuple #[]) ∧
      ∃ v', Has w' b v' dn (ws ++ [⟨o, true, ⟨#[]⟩⟩]) ∧ LogAt w' lb b o false ∧ WroteL lb b v w v' w' := by
  have c0 := hl.c0
  have c1 := hl.c1
  have hD := h.drew
  have hlD := hl.drew
  go_enter Try.func51, Try.ntmps51
  go_wp2_with fail
  go_region_with ((go_at_call 24; refine (reset_yes o hD hn).mono ?_; rintro e w1 ⟨rfl, v1, h1, hw1⟩))
  all_goals
    have hl1 := hlD.disk hD hw1
    have d2 := hl1.c2
    have g2 := hl1.fz 2
    have hw2 : Wrote b v w v1 w1 := (Wrote.of_below ((Below.refl _ _).drew)).trans hw1
    have hne := h1.not hl1.at_ (by decide) (by decide)
    have H1 := Hid.mk h1
    have HW := Hid.mk hw2
    have HL1 := Hid.mk hl1
    have HN := Hid.mk hne
    clear h1 hw1 hl1 hw2 hne hD hlD c0 c1
    go_wp2
    go_end0
    refine ⟨rfl, v1, H1.out.carry (Below.heap_setCell _ _ _ _ (Ne.symm HN.out.1)) (fun k hk => Below.heap_setCell _ _ _ _ (fun e => HN.out.2 (by rw [← show k = lb from e]; exact hk))), ⟨?_⟩, ?_⟩
    · rw [heap_set _ HL1.out.at_]; simp
    · have := HW.out
      refine ⟨this.os, this.tape, this.output, by have := this.size; simpa [World.setCell] using this, fun k hk h0 h1 h2 => ?_, this.own⟩
      rw [Below.heap_setCell _ _ _ _ h0]
      exact this.block k hk h1 h2

set_option maxRecDepth 100000 in
theorem clear_nil (w : World) : Calls Try.prog 51 #[.pointer none] w fun e w' => e = .returned (.tuple #[]) ∧ w' = w := by
  go_enter Try.func51, Try.ntmps51
  go_wp2
  refine bodyPost_ret (results_none rfl _ _ _) rfl ?_
  exact ⟨rfl, rfl⟩

end

end Go.Proofs.Ytcofiidibhmhgaa
