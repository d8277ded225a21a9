/-
  The law's own 'alive'.
-/
import Derived.Test.YtcofiidibhmhgaaVState
namespace Go.Proofs.Ytcofiidibhmhgaa
open Go.RowKit

theorem img_short (s : ByteArray) (e : Nat) (he : e < 16384) (hs : s.size ≤ 1000) : (imgB e s).size ≤ 1024 := by
  rw [imgB_size]
  have := Sty.wide_len (n := e) (by omega)
  omega

theorem IsTexts.some_at {w : World} {a : Option Addr} {len cap : Nat} {ts : List ByteArray} (h : IsTexts w a len cap ts) : ∃ g off, (ts ≠ [] → a = some ⟨g, off, none⟩) ∧ ∀ j (h : j < ts.length), w.cell? ⟨g, off + j, none⟩ = some (.string ts[j]) := by
  obtain ⟨hl, ⟨rfl, _⟩ | ⟨g, off, rfl, hat⟩⟩ := h
  · exact ⟨0, 0, fun h => absurd rfl h, fun j h => by simp at h⟩
  · exact ⟨g, off, fun _ => rfl, hat.cell⟩

set_option maxHeartbeats 1600000 in
set_option maxRecDepth 100000 in
theorem alive_any (w : World) : Calls Try.prog 9 #[] w fun e w' => e = .returned (.bool true) ∧ Below w.heap.size w w' := by
  have h0 := Mine.new (Below.refl w.heap.size w) (Nat.le_refl _)
  go_enter Try.func9, Try.ntmps9
  go_wp2_with fail
  refine (new_any w).mono ?_
  rintro e w1 ⟨rfl, hw1⟩
  rw [← hw1] at h0
  clear hw1
  go_wp2_with fail
  refine (mvOpen h0 fnd_new).mono ?_
  rintro e w2 ⟨vb, lb, ob, tn, tm, va, vc, rfl, mv, _, hb2⟩
  have mv2 := mv.grow ((Below.refl _ w2).alloc (Nat.le_refl _) (.cells #[.string ⟨#[]⟩, .slice va ([] : List ByteArray).length vc] 31))
  clear hb2 mv h0
  go_wp2_with fail
  refine (settle_vs mv2 ⟨#[105]⟩ (by omega) (img_short _ _ (by omega) (by decide)) (by decide)).mono ?_
  rintro e w3 ⟨rfl, vs3, _⟩
  clear mv2
  go_wp2_with fail
  refine (vs3.append ⟨#[97]⟩ (by decide) (by decide) (by decide)).mono ?_
  rintro e w4 ⟨rfl, vs4, _⟩
  clear vs3
  go_wp2_with fail
  refine vs4.force.mono ?_
  rintro e w5 ⟨rfl, vs5, _⟩
  clear vs4
  go_wp2_with fail
  refine (vs5.crash 0 0 (by decide)).mono ?_
  rintro e w6 ⟨rfl, v6, dn6, n6, hn6, m6, hF6, _⟩
  have e6 : ([] ++ ([] ++ [⟨#[97]⟩]) ++ ([] : List ByteArray).take n6) = [⟨#[97]⟩] := by simp
  rw [e6] at hF6
  clear vs5 e6 hn6
  go_wp2_with fail
  refine (mvOpen m6 hF6).mono ?_
  rintro e w7 ⟨vb7, lb7, ob7, tn7, tm7, va7, vc7, rfl, mv7, row7, hb7⟩
  obtain ⟨a7, c7, e7, ht7⟩ := texts_of_row row7
  cases e7
  obtain ⟨g, off, hg1, hg2⟩ := ht7.some_at
  have hga := hg1 (by simp)
  subst hga
  have c0 := hg2 0 (by simp)
  have c0' : (w7.alloc (.cells #[.string ⟨#[105]⟩, .slice (some ⟨g, off, none⟩) 1 vc7] 31)).cell? ⟨g, off, none⟩ = some (.string ⟨#[97]⟩) := cell_on _ c0
  have HB := Hid.mk (mv7.d.below.alloc mv7.lo (.cells #[.string ⟨#[105]⟩, .slice (some ⟨g, off, none⟩) 1 vc7] 31))
  clear c0 hg1 hg2 ht7 row7 mv7 m6 hF6 hb7
  go_wp2
  go_ret
  exact ⟨rfl, HB.out⟩

end Go.Proofs.Ytcofiidibhmhgaa
