/-
  VaultEpochs: for all images and every load the law returns true: each image is one epoch more; the one ahead is gone, and all its loads. No condition.
-/
import Derived.Test.YtcofiidibhmhgabVRow
namespace Go.Proofs.Ytcofiidibhmhgab.vaultEpochs
open Go.ChangeShapes Go.WideShapes Go.ChangeAt Go.RowKit Go.Deep
open Go.ChangeMaps (open_string shut_string)

/-- The law's state behind k images. -/
def St (w wr : World) (vb b k : Nat) : Prop :=
  ∃ lb ob v tn tm st dn ws, MV w.heap.size w wr vb lb ob b v (decide (k % 2 = 1)) tn tm k st dn ws ∧ ws.length ≤ 1000

theorem next_area (k : Nat) : (!(decide (k % 2 = 1))) = decide ((k + 1) % 2 = 1) := by
  rcases Nat.mod_two_eq_zero_or_one k with h | h
  · have : (k + 1) % 2 = 1 := by omega
    simp [h, this]
  · have : (k + 1) % 2 = 0 := by omega
    simp [h, this]

theorem ar_area (k : Nat) : (k : Int) % 2 = ar (decide (k % 2 = 1)) := by
  have h1 : (k : Int) % 2 = ((k % 2 : Nat) : Int) := by omega
  rw [h1]
  rcases Nat.mod_two_eq_zero_or_one k with h | h <;> simp [h, ar]

set_option maxHeartbeats 3200000 in
set_option maxRecDepth 100000 in
theorem walk (a : Option Addr) (len cap : Nat) (ts : List ByteArray) (ld : ByteArray) (w : World) (ha : IsTexts w a len cap ts) :
    Calls Try.prog 3 #[.slice a len cap, .string ld] w fun e w' => e = .returned (.bool true) ∧ Below w.heap.size w w' := by
  go_enter Try.func3, Try.ntmps3
  go_wp2_with fail
  refine (alive_any w).mono ?_
  rintro e w1 ⟨rfl, hb1⟩
  by_cases hl : 40 < len
  · have hl' : (40 : Int) < (len : Int) := by omega
    go_wp2
    go_ret
    exact ⟨rfl, hb1⟩
  have hl' : ¬ (40 : Int) < (len : Int) := by omega
  by_cases hld : 900 < ld.size
  · have hld' : (900 : Int) < (ld.size : Int) := by omega
    go_wp2
    go_ret
    exact ⟨rfl, hb1⟩
  have hld' : ¬ (900 : Int) < (ld.size : Int) := by omega
  have h0 := Mine.new hb1 hb1.size
  go_wp2_with fail
  refine (new_any w1).mono ?_
  rintro e w3 ⟨rfl, hw3⟩
  rw [← hw3] at h0
  clear hw3
  go_wp2_with fail
  refine (mvOpen h0 fnd_new).mono ?_
  rintro e w4 ⟨vb, lb, ob, tn, tm, va, vc, rfl, mv, _, hb4⟩
  have mv5 := mv.grow ((Below.refl _ w4).alloc (Nat.le_refl _) (.cells #[.string ⟨#[]⟩, .slice va 0 vc] 28))
  have st0 : St w (w4.alloc (.cells #[.string ⟨#[]⟩, .slice va 0 vc] 28)) vb w1.heap.size 0 := ⟨lb, ob, _, tn, tm, false, [], [], mv5, by simp⟩
  have HST := Hid.mk st0
  clear hb4 mv h0 hb1 mv5 st0
  go_wp2
  go_loopw [9, 10, 11, 12, 13, 33] (fun _ _ _ _ _ i wr => ∃ k : Nat, k ≤ len ∧ i = .int .i64 k ∧ St w wr vb w1.heap.size k) (fun _ _ _ _ _ i _ => len - (intOf i).toNat)
  case atStart => exact ⟨0, Nat.zero_le _, rfl, HST.out⟩
  case round =>
    obtain ⟨k, hk, rfl, lb, ob, v, tn, tm, st, dn, ws, mv, hws⟩ := hrel
    have hbw := mv.d.below
    by_cases hlt : k < len
    · obtain ⟨hlen, ⟨rfl, _⟩ | ⟨g, off, rfl, hat⟩⟩ := ha
      · exact absurd hlen (by simp; omega)
      have hkt : k < ts.length := by omega
      have hatr := hat.carry (hbw.block g hat.lt) hbw.size
      have c := hatr.cell k hkt
      obtain ⟨s, hs⟩ : ∃ s, s = ts[k] := ⟨_, rfl⟩
      rw [← hs] at c
      have HK := Hid.mk hlt
      have HBW := Hid.mk hbw
      clear hs hat hatr hbw
      by_cases hsz : 900 < s.size
      · have hsz' : (900 : Int) < (s.size : Int) := by omega
        go_wp2
        go_ret
        exact ⟨rfl, HBW.out⟩
      have hsz' : ¬ (900 : Int) < (s.size : Int) := by omega
      go_wp2_with fail
      refine (settle_vs mv s (by omega) (img_short _ _ (by omega) (by omega)) hws).mono ?_
      rintro e w6 ⟨rfl, vs6, _⟩
      rw [next_area] at vs6
      clear mv hws c
      go_wp2_with fail
      refine vs6.epoch.mono ?_
      rintro e w7 ⟨rfl, hw7⟩
      rw [hw7]
      clear hw7 w7
      go_wp2_with fail
      refine (vs6.append ld (by omega) (by decide) (by decide)).mono ?_
      rintro e w7 ⟨rfl, vs7, _⟩
      clear vs6
      obtain ⟨lb7, ob7, v7, dn7, mv7, hs7⟩ := vs7.mv
      have hF7 := vs7.here hs7
      have hrd : txt (decide (k % 2 = 1)) (dn7 ++ recs (decide ((k + 1) % 2 = 1)) (([] ++ [ld]).map ldB)) = ⟨#[]⟩ := by
        have h1 := hs7.add (recs (decide ((k + 1) % 2 = 1)) (([] ++ [ld]).map ldB)) (decide (k % 2 = 1))
        rw [h1, ← recs_append, ← next_area]
        have h2 := txt_other (!(decide (k % 2 = 1))) (imgs (k + 1) s [] ++ ([] ++ [ld]).map ldB)
        rw [Bool.not_not] at h2
        exact h2
      have HRD := Hid.mk hrd
      have HF7 := Hid.mk hF7
      clear vs7 hs7 hrd hF7
      go_wp2_with fail
      refine (mvOpen mv7.d HF7.out).mono ?_
      rintro e w8 ⟨vb8, lb8, ob8, tn8, tm8, va8, vc8, rfl, mv8, row8, hb8⟩
      obtain ⟨a8, c8, e8, ht8⟩ := texts_of_row row8
      cases e8
      obtain ⟨g8, off8, hg1, hg2⟩ := ht8.some_at
      have hga := hg1 (by simp)
      subst hga
      have cld : (w8.alloc (.cells #[.string s, .slice (some ⟨g8, off8, none⟩) 1 vc8] 28)).cell? ⟨g8, off8, none⟩ = some (.string ld) := cell_on _ (hg2 0 (by simp))
      have hx8 : Below w8.heap.size w8 (w8.alloc (.cells #[.string s, .slice (some ⟨g8, off8, none⟩) 1 vc8] 28)) := (Below.refl _ w8).alloc (Nat.le_refl _) _
      obtain ⟨d0, d1, _, _⟩ := box2 (heap_alloc_new w8 (.cells #[.string s, .slice (some ⟨g8, off8, none⟩) 1 vc8] 28))
      have mv9 := (mv7.grow hb8).grow hx8
      have hr := read_yes (decide (k % 2 = 1)) mv9.d.has
      rw [HRD.out] at hr
      have HRR := Hid.mk hr
      have hss := same_bytes s
      have hsl := same_bytes ld
      have HMV : Hid (St w (w8.alloc (.cells #[.string s, .slice (some ⟨g8, off8, none⟩) 1 vc8] 28)) vb w1.heap.size (k + 1)) := Hid.mk ⟨lb7, ob7, v7, _, _, _, _, _, mv9, by simp [recs]⟩
      clear mv7 mv8 mv9 row8 hb8 ht8 hg1 hg2 hx8 hr
      go_wp2_with fail
      rw [ar_area k]
      refine HRR.out.mono ?_
      rintro e w9 ⟨rfl, hw9⟩
      rw [hw9]
      clear hw9 w9
      go_wp2
      go_roundw
      case rel => exact ⟨k + 1, HK.out, by go_num, HMV.out⟩
      case measure =>
        have := HK.out
        simp [intOf]
        omega
    · have HBW := Hid.mk hbw
      clear mv hbw
      go_wp2
      go_ret
      exact ⟨rfl, HBW.out⟩

set_option maxRecDepth 100000 in
theorem lifted (os : Os) (started : os.Started) (H : Type) (enc : TypeId × Value → H) :
    ReturnsInHanded {} Try.checked os 3 .any (Rows.vaultEpochsSpec.pre6 enc Try.prog Try.f3 Rows.vaultEpochsRow.domain false) (Rows.vaultEpochsSpec.post enc Try.prog Try.f3 false true false false) := by
  refine returnsInHanded_of_change (C := Try.checked) own started (by kernel_rfl) Try.func3
    (ChangeSpec.witness6 (enc := enc) (C := Try.checked) false ⟨#[], #[.slice none 0 0, .string .empty], []⟩ 8 (by kernel_rfl) (by kernel_rfl) (by kernel_rfl) (by kernel_rfl)) ?_
  intro W base args ds gs before hval0 hW hcnd _
  have hval : ∀ (j : Nat) t v, Try.f3.params[j]? = some t → args[j]? = some v → Value.okWide Try.prog W .any base t v := hval0
  have hW' := hW
  obtain ⟨p, q, hA0, hV, rfl, hfz, hnd⟩ := hW
  have hA : DataW.TrodAll enc Try.prog W 0 (fun _ => true) true Try.f3.params.toList args.toList ds p := hA0
  rw [Try.params3] at hA hval
  obtain ⟨v0, vs0, d0, ds0, p0, q0, hargs, rfl, rfl, h0, r0⟩ := trodAll_cons hA
  obtain ⟨v1, vs1, d1, ds1, p1, q1, rfl, rfl, rfl, h1, r1⟩ := trodAll_cons r0
  obtain ⟨rfl, rfl, rfl⟩ := trodAll_nil r1
  obtain rfl : args = #[v0, v1] := by cases args; simp_all
  obtain ⟨rfl, rfl⟩ := trodVars_none hV
  obtain ⟨a0, len0, cap0, rfl⟩ := okWide_slice Try.underlying22 (hval 0 22 v0 rfl rfl)
  have k0 := h0
  have lt0 : ∀ x ∈ p0, x.block < W.heap.size := by obtain ⟨m, hm⟩ := k0; exact DataW.trod_lt m _ _ _ hm
  obtain ⟨ts0, w0⟩ : ∃ ts, IsTexts W a0 len0 cap0 ts := by
    obtain ⟨fuel, hf⟩ := h0
    exact open_texts hf
  obtain ⟨s1, rfl, rfl, rfl, w1⟩ := open_string Try.underlying9 (hval 1 9 v1 rfl rfl) h1
  clear hA0 hval0
  refine (walk a0 len0 cap0 ts0 s1 W w0).mono fun e W' ⟨he, bel⟩ => ?_
  subst he
  exact ⟨_, rfl, _, _, _, [], _, [], hW', trodAll_mk1 (shut_bool Try.underlying4 _), (trodAll_cons_mk (Below.trod laidOut (by kernel_rfl) (of_decide_eq_true (by kernel_rfl)) k0 bel lt0) (trodAll_cons_mk (shut_string Try.underlying9 w1) trodAll_mk0)), rfl, bel.frame _, fun h => by cases h⟩

set_option maxRecDepth 100000 in
theorem over : Rows.vaultEpochsRow.holds Try.pinned (OpenSpec.ofChange Rows.vaultEpochsSpec) :=
  OpenClaim.holds_of_wide 3 Try.f3 rfl rfl rfl rfl rfl rfl rfl ⟨rfl, rfl, rfl, rfl, rfl⟩ rfl rfl rfl rfl rfl (by kernel_rfl) Try.func3 (by kernel_rfl)
    (of_decide_eq_true (by kernel_rfl)) (by unfold Func.isWrapper; first | (rw [if_pos (by decide +kernel)]; kernel_rfl) | (rw [if_neg (by decide +kernel)]; exact ⟨rfl, rfl⟩))
    (fun os started H enc _ => lifted os started H enc)

end Go.Proofs.Ytcofiidibhmhgab.vaultEpochs

namespace Go.Proofs.Ytcofiidibhmhgab
/-- The statement. -/
theorem vaultEpochs_holds : Rows.VaultEpochsSaid := vaultEpochs.over
#print axioms vaultEpochs_holds
end Go.Proofs.Ytcofiidibhmhgab
