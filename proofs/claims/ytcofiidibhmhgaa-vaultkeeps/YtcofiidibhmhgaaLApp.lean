/-
  The walk of the log's Append.
-/
import Derived.Test.YtcofiidibhmhgaaLSmall
namespace Go.Proofs.Ytcofiidibhmhgaa
open Go.RowKit

/-- The record of a load, as a text. -/
def recOf (s : ByteArray) : ByteArray := ⟨(recB s.data.toList).toArray⟩

theorem recOf_size (s : ByteArray) : (recOf s).size ≤ s.size + 6 := by
  unfold recOf
  rw [str_size]
  have := recB_le s.data.toList
  rwa [size_list] at this

/-- What a log's Append answers, and what waits behind it. -/
def stepL (o tn : Bool) (s : ByteArray) (dn ws : List Ch) : Int × List Ch :=
  if 1024 < s.size then (3, ws) else if tn then (9, ws) else if 16384 < (txt o (dn ++ ws)).size + (recOf s).size then (6, ws) else (0, ws ++ [⟨o, false, recOf s⟩])

theorem stepL_len (o tn : Bool) (s : ByteArray) (dn ws : List Ch) : (stepL o tn s dn ws).2.length ≤ ws.length + 1 := by
  unfold stepL
  split
  · simp
  split
  · simp
  split <;> simp

section
variable {w : World} {lb b : Nat} {v : Value} {o tn : Bool} {dn ws : List Ch}

set_option maxRecDepth 100000 in
/-- The disk's Append of a record, whatever it answers. -/
theorem dappend_any (o : Bool) (s : ByteArray) (hs : s.size ≤ 1024) (h : Has w b v dn ws) (hn : ws.length ≤ 1000000) :
    Calls Try.prog 12 #[.pointer (some ⟨b, 0, none⟩), .int .i64 (ar o), .string (recOf s)] w fun e w' => e = .returned (.int .i64 (stepL o false s dn ws).1) ∧
      ∃ v', Has w' b v' dn (stepL o false s dn ws).2 ∧ Wrote b v w v' w' := by
  have hr := recOf_size s
  unfold stepL
  rw [if_neg (by omega), if_neg (by simp)]
  by_cases hf : 16384 < (txt o (dn ++ ws)).size + (recOf s).size
  · rw [if_pos hf]
    exact (append_full o _ h (by omega) hf).mono fun e w' ⟨he, hw⟩ => ⟨he, v, by rw [hw]; exact h, by rw [hw]; exact Wrote.refl _ _ _⟩
  · rw [if_neg hf]
    exact append_yes o _ h (by omega) hn

set_option maxRecDepth 100000 in
theorem logAppend_nil (s : ByteArray) (w : World) : Calls Try.prog 32 #[.pointer none, .string s] w fun e w' => e = .returned (.int .i64 2) ∧ w' = w := by
  go_enter Try.func32, Try.ntmps32
  go_wp2
  go_ret
  exact ⟨rfl, rfl⟩

set_option maxHeartbeats 1600000 in
set_option maxRecDepth 100000 in
theorem logAppend_any (s : ByteArray) (hl : LogAt w lb b o tn) (h : Has w b v dn ws) (hs : s.size ≤ 1099511627776) (hn : ws.length ≤ 1000000) :
    Calls Try.prog 32 #[.pointer (some ⟨lb, 0, none⟩), .string s] w fun e w' => e = .returned (.int .i64 (stepL o tn s dn ws).1) ∧
      ∃ v', Has w' b v' dn (stepL o tn s dn ws).2 ∧ Wrote b v w v' w' := by
  by_cases hlong : 1024 < s.size
  · have e : stepL o tn s dn ws = (3, ws) := by unfold stepL; rw [if_pos hlong]
    rw [e]
    go_enter Try.func32, Try.ntmps32
    go_wp2
    go_ret
    exact ⟨rfl, v, h, Wrote.refl _ _ _⟩
  have c2 := hl.c2
  cases tn with
  | true =>
    have e : stepL o true s dn ws = (9, ws) := by unfold stepL; rw [if_neg hlong]; rfl
    rw [e]
    go_enter Try.func32, Try.ntmps32
    go_wp2
    go_ret
    exact ⟨rfl, v, h, Wrote.refl _ _ _⟩
  | false =>
    have c0 := hl.c0
    have c1 := hl.c1
    obtain ⟨st, hst⟩ : ∃ st, st = stepL o false s dn ws := ⟨_, rfl⟩
    have hA : ∀ w', Below w.heap.size w w' → Calls Try.prog 12 #[.pointer (some ⟨b, 0, none⟩), .int .i64 (ar o), .string (recOf s)] w' fun e w2 => e = .returned (.int .i64 st.1) ∧ ∃ v', Has w2 b v' dn st.2 ∧ Wrote b v w v' w2 := fun w' hb' => by
      rw [hst]
      exact (dappend_any o s (by omega) (h.grown hb') hn).mono fun e w2 ⟨he, v', h1, h2⟩ => ⟨he, v', h1, (Wrote.of_below hb').trans h2⟩
    rw [← hst]
    have HA := Hid.mk hA
    have HH := Hid.mk h
    have HL := Hid.mk hl
    have hlt := hl.lt
    clear hA hst h hl
    go_enter Try.func32, Try.ntmps32
    go_wp2_with fail
    go_region_held3 (fun wx => wx.cell? ⟨lb, 0, none⟩ = some (.pointer (some ⟨b, 0, none⟩)) ∧ wx.cell? ⟨lb, 1, none⟩ = some (.int .i64 (ar o)))
      (first
        | exact ⟨c0, c1⟩
        | exact hS2
        | exact hS1)
      ((first
        | (have := m1; go_at_call 12; refine (HA.out _ hb1).mono ?_; rintro e w2 ⟨rfl, v2, h2, hw2⟩; have hl2 := HL.out.disk HH.out hw2; have hS2 := And.intro hl2.c0 hl2.c1; clear hl2)
        | (go_at_call 47; refine (close_any _ s (by omega)).mono ?_; rintro e w1 ⟨rfl, hb0⟩; have hb1 := (Below.refl w.heap.size w).drew.trans hb0; have hl1 := HL.out.grown hb1; have hS1 := And.intro hl1.c0 hl1.c1; have m1 := Hid.mk trivial; clear hl1 hb0)))
    have H2 := Hid.mk h2
    have HW := Hid.mk hw2
    clear h2 hw2 hS1 hS2 m1 hb1
    go_wp2
    go_ret
    exact ⟨rfl, v2, H2.out, HW.out⟩

end

end Go.Proofs.Ytcofiidibhmhgaa
