/-
  The walk of Crash: what didn't come is lost, at all three ways.
-/
import Derived.Test.YtjiljencdhbchaaXPush
namespace Go.Proofs.Ytjiljencdhbchaa
open Go.RowKit

theorem bcells_take (bs : List UInt8) (n : Nat) : bcells (bs.take n) = (bcells bs).take n := by simp [bcells, List.map_take]

theorem ownsRow_cut {w : World} {g n cap c : Nat} {bs : List UInt8} (h : w.ownsRow 0 5 1 (.slice (some ⟨g, 0, none⟩) n cap) n (bcells bs)) (hc : c ≤ n) :
    w.ownsRow 0 5 1 (.slice (some ⟨g, 0, none⟩) c cap) (bs.take c).length (bcells (bs.take c)) := by
  have hl : bs.length = n := by have := h.1; rw [bcells_length] at this; omega
  have hm : (bs.take c).length = c := by simp; omega
  rw [hm]
  refine ⟨by rw [bcells_length, hm, Nat.mul_one], ?_⟩
  rcases h.2 with ⟨e, _⟩ | ⟨g', cap', cur, e, h0, hg, r1, r2, r3, r4⟩
  · cases e
  · cases e
    refine .inr ⟨g, cap, cur, rfl, h0, hg, by omega, r2, r3, ?_⟩
    rw [bcells_take, ← r4, List.take_take, Nat.mul_one, Nat.mul_one, Nat.min_eq_left hc]

theorem grownBy_refl (w : World) (r : Option Nat) : w.grownBy w r := ⟨rfl, rfl, rfl, Nat.le_refl _, fun _ _ _ => rfl⟩

/-- The first k ways are cut. -/
def cutF (f : Nat → Wy) (k : Nat) : Nat → Wy := fun j => if j < k then (f j).crash else f j

theorem cutF_zero (f : Nat → Wy) : cutF f 0 = f := by funext j; simp [cutF]
theorem cutF_succ (f : Nat → Wy) (k : Nat) : upd (cutF f k) k (f k).crash = cutF f (k + 1) := by
  funext j
  unfold upd cutF
  by_cases h : j = k
  · subst h; simp
  · rw [if_neg h]
    by_cases h2 : j < k
    · rw [if_pos h2, if_pos (by omega)]
    · rw [if_neg h2, if_neg (by omega)]
theorem cutF_at (f : Nat → Wy) (k : Nat) : cutF f k k = f k := by simp [cutF]

section
variable {w : World} {b : Nat} {vs : Nat → Value} {f : Nat → Wy}

/-- A slice cut, and then the number: the way is cut. -/
theorem Wir.cut (h : Wir w b vs f) (i : Nat) (hi : i < 3) (v : Value) (hown : w.ownsRow 0 5 1 v ((f i).bs.take (f i).came).length (bcells ((f i).bs.take (f i).came))) (hat : ∀ k, v.ownBlock = some k → (vs i).ownBlock = some k) :
    Wir (((w.setCell ⟨b, i * 3, none⟩ v).setCell ⟨b, i * 3 + 2, none⟩ (.int .i64 ((f i).came : Nat))).drew) b (upd vs i v) (upd f i (f i).crash) ∧
      Wrote b vs w (upd vs i v) (((w.setCell ⟨b, i * 3, none⟩ v).setCell ⟨b, i * 3 + 2, none⟩ (.int .i64 ((f i).came : Nat))).drew) := by
  have R := h.toRaw.setV i hi v ⟨(f i).bs.take (f i).came, (f i).came, (f i).gone⟩ rfl rfl hown (grownBy_refl _ _) (fun k hk => .inl (hat k hk))
  have R2 := R.1.setG i hi (f i).came
  have e : upd (upd f i ⟨(f i).bs.take (f i).came, (f i).came, (f i).gone⟩) i ⟨(upd f i ⟨(f i).bs.take (f i).came, (f i).came, (f i).gone⟩ i).bs, (upd f i ⟨(f i).bs.take (f i).came, (f i).came, (f i).gone⟩ i).came, (f i).came⟩ = upd f i (f i).crash := by
    funext j
    rw [upd_same]
    unfold upd Wy.crash
    split <;> rfl
  rw [e] at R2
  exact ⟨⟨R2.drew, good_upd h.good i (h.good i hi).crash⟩, (R.2.set _ _).drew⟩

set_option maxHeartbeats 1600000 in
set_option maxRecDepth 100000 in
theorem crash_yes (h : Wir w b vs f) :
    Calls Try.prog 17 #[.pointer (some ⟨b, 0, none⟩)] w fun e w' => e = .returned (.tuple #[]) ∧ ∃ vs', Wir w' b vs' (cutF f 3) ∧ Wrote b vs w vs' w' := by
  have H := Hid.mk h
  clear h
  go_enter Try.func17, Try.ntmps17
  go_wp2
  go_loopw [2, 3, 6] (fun _ _ i wr => ∃ (k : Nat) (vk : Nat → Value), k ≤ 3 ∧ i = .int .i64 k ∧ Wir wr b vk (cutF f k) ∧ Wrote b vs w vk wr) (fun _ _ i _ => 3 - (intOf i).toNat)
  case atStart => exact ⟨0, vs, Nat.zero_le _, rfl, by rw [cutF_zero]; exact H.out, Wrote.refl _ _ _⟩
  case round =>
    obtain ⟨k, vk, hk, rfl, hr, hw⟩ := hrel
    by_cases hlt : k < 3
    · have cv := hr.cv k hlt
      have cc := hr.cc k hlt
      have cg := hr.cg k hlt
      have fv := hr.fz (k * 3)
      have fg := hr.fz (k * 3 + 2)
      have hcl := (hr.good k hlt).cl
      obtain ⟨C, hC⟩ : ∃ C, C = (cutF f k k).came := ⟨_, rfl⟩
      have hcut := cutF_succ f k
      rw [← cutF_at f k] at hcut
      have hkd := hr.kind k hlt
      have HC := Hid.mk hC
      have HCUT := Hid.mk hcut
      have HR := Hid.mk hr
      have HW := Hid.mk hw
      have HLT := Hid.mk hlt
      rw [← hC] at cc hcl hkd
      have q0 : ¬ (k : Int) < 0 := by omega
      have q3 : (k : Int) < 3 := by omega
      clear hcut hC hr hw
      rcases hkd with ⟨hv, hb, hc0, _⟩ | ⟨g, cap, hv, hcap, _⟩
      · rw [hv] at cv
        rw [hc0] at cc
        have HX := Hid.mk (HR.out.cut k HLT.out (.slice none 0 0) (by rw [hb, List.take_nil]; exact World.ownsRow_nil _ _ _ _) (by simp [Value.ownBlock]))
        rw [← HC.out, hc0] at HX
        rw [HCUT.out] at HX
        clear hv hb hc0 hcl HC HCUT HR
        go_wp2_with fail
        go_region
        all_goals
          go_wp2
          go_roundw
          case rel => exact ⟨k + 1, _, HLT.out, by go_num, HX.out.1, HW.out.trans HX.out.2⟩
          case measure => have := HLT.out; simp [intOf]; omega
      · rw [hv] at cv
        have HX := Hid.mk (HR.out.cut k HLT.out (.slice (some ⟨g, 0, none⟩) C cap) (by rw [← HC.out]; exact ownsRow_cut (by have := HR.out.owns k HLT.out; rw [hv] at this; exact this) hcl) (by rw [hv]; exact fun _ h => h))
        rw [← HC.out] at HX
        rw [HCUT.out] at HX
        have q1 : (C : Int) ≤ (cap : Int) := by omega
        have q2 : (0 : Int) ≤ (C : Int) := Int.natCast_nonneg _
        clear hv hcap hcl HC HCUT HR
        go_wp2_with fail
        go_region
        all_goals
          go_wp2
          go_roundw
          case rel => exact ⟨k + 1, _, HLT.out, by go_num, HX.out.1, HW.out.trans HX.out.2⟩
          case measure => have := HLT.out; simp [intOf]; omega
    · have hk3 : k = 3 := by omega
      subst hk3
      have HR := Hid.mk hr
      have HW := Hid.mk hw
      clear hr hw
      go_wp2
      go_end0
      exact ⟨rfl, _, HR.out, HW.out⟩

end

end Go.Proofs.Ytjiljencdhbchaa
