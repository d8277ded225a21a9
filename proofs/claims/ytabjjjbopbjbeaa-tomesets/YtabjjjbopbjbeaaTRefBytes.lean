/-
  The document's Bytes: those of the files that are there, one behind the other.
-/
import Derived.Test.YtabjjjbopbjbeaaTRefRead
import Derived.Test.YtabjjjbopbjbeaaYRefs
namespace Go.Proofs.Ytabjjjbopbjbeaa.Tom
open Go.RowKit Cel
open Sty (refNat_any refText_any natB textB wide join_bytes wide_len)

set_option maxRecDepth 100000 in
theorem idx_six {F : List (Bool × ByteArray)} (h : F.length = 6) (k : Nat) (hk : k < 6) (w : World) : (Instr.index 30 (.agg (filesC F).toArray) (.int .i64 (k : Int))).run Try.prog w = .ok (.agg #[.bool F[k]!.1, .string F[k]!.2]) w := by
  obtain ⟨a, b, c, d, e, f, rfl⟩ := six_files h
  have hc : k = 0 ∨ k = 1 ∨ k = 2 ∨ k = 3 ∨ k = 4 ∨ k = 5 := by omega
  rcases hc with rfl | rfl | rfl | rfl | rfl | rfl <;> rfl

theorem fromB_take {F : List (Bool × ByteArray)} (k : Nat) (hk : k < F.length) : fromB 0 (F.take (k + 1)) = fromB 0 (F.take k) ++ fB k F[k]! := by
  rw [List.take_succ_eq_append_getElem hk, fromB_append, List.length_take, Nat.min_eq_left (by omega), Nat.zero_add, getElem!_pos F k hk]
  show _ ++ (fB k F[k] ++ []) = _
  rw [List.append_nil]

set_option maxHeartbeats 4000000 in
set_option maxRecDepth 100000 in
theorem refBytes_any {F : List (Bool × ByteArray)} (h6 : Six F) (w : World) :
    Calls Try.prog 15 #[.agg (filesC F).toArray] w fun e w' => e = .returned (.string ⟨(fromB 0 F).toArray⟩) ∧ Below w.heap.size w w' := by
  have HI := Hid.mk (idx_six h6.len)
  have H6 := Hid.mk h6
  obtain ⟨fa, fb, fc, fd, fe, ff, hFe⟩ := six_files h6.len
  have hfe : (filesC F).toArray = #[.bool fa.1, .string fa.2, .bool fb.1, .string fb.2, .bool fc.1, .string fc.2, .bool fd.1, .string fd.2, .bool fe.1, .string fe.2, .bool ff.1, .string ff.2] := by rw [hFe]; rfl
  have HFE := Hid.mk hfe
  have hb0 := (Below.refl w.heap.size w).alloc (Nat.le_refl _) (.cells (filesC F).toArray 30)
  rw [hfe] at hb0 ⊢
  obtain ⟨a0, a1⟩ := fa
  obtain ⟨b0, b1⟩ := fb
  obtain ⟨c0, c1⟩ := fc
  obtain ⟨d0, d1⟩ := fd
  obtain ⟨g0, g1⟩ := fe
  obtain ⟨h0, h1⟩ := ff
  have HB := Hid.mk hb0
  clear h6 hFe hfe hb0
  go_enter Try.func15, Try.ntmps15
  go_wp2
  go_loopw [3, 4, 5, 7] (fun sv _ _ idx wr => ∃ k : Nat, k ≤ 6 ∧ sv = .string ⟨(fromB 0 (F.take k)).toArray⟩ ∧ idx = .int .i64 k ∧ Below w.heap.size w wr) (fun _ _ _ idx _ => 6 - (intOf idx).toNat)
  case atStart => exact ⟨0, Nat.zero_le _, rfl, rfl, HB.out⟩
  case round =>
    obtain ⟨k, hk, rfl, rfl, hb⟩ := hrel
    by_cases hlt : k < 6
    · have hx : ∀ z, (Instr.index 30 (.agg #[.bool a0, .string a1, .bool b0, .string b1, .bool c0, .string c1, .bool d0, .string d1, .bool g0, .string g1, .bool h0, .string h1]) (.int .i64 (k : Int))).run Try.prog z = .ok (.agg #[.bool F[k]!.1, .string F[k]!.2]) z := fun z => by
        have h := HI.out k hlt z
        rw [HFE.out] at h
        exact h
      have HTK := Hid.mk (fromB_take (F := F) k (by rw [H6.out.len]; exact hlt))
      have hcf := H6.out.at_ k hlt
      have hbz := hb.alloc hb.size (.cells #[.bool F[k]!.1, .string F[k]!.2] 29)
      have hnz := heap_new wr (.cells #[.bool F[k]!.1, .string F[k]!.2] 29)
      obtain ⟨bs, hbs⟩ : ∃ bs, bs = fromB 0 (F.take k) := ⟨_, rfl⟩
      rw [← hbs] at HTK ⊢
      obtain ⟨q, hq⟩ : ∃ q, q = F[k]!.2 := ⟨_, rfl⟩
      have hq32 : q.size ≤ 32 := by rw [hq]; exact canF_le hcf
      by_cases hf : F[k]!.1 = true
      · have hfb : fB k F[k]! = wide k ++ textB q := by rw [fB_yes k hf, hq]
        rw [hfb] at HTK
        rw [hf] at hbz hnz
        rw [← hq] at hbz hnz
        simp only [hf, ← hq] at hx
        obtain ⟨Z, hZ⟩ : ∃ Z, Z = wr.alloc (.cells #[.bool true, .string q] 29) := ⟨_, rfl⟩
        rw [← hZ] at hbz hnz
        have HBZ := Hid.mk hbz
        have LAY : Hid (∀ g : Wider Z.heap.size Z, g.z.cell? ⟨wr.heap.size, 1, none⟩ = some (.string q)) := Hid.mk (fun g => cell_at ((g.h.block _ (Array.getElem?_eq_some_iff.1 hnz).1).trans hnz) rfl)
        have HZ := Hid.mk hZ
        have HNN : Hid (natB (k : Int) = wide k) := Hid.mk (natB_nat k)
        have C1 := Hid.mk (fun z => refNat_any z (k : Int) (by omega))
        have C2 := Hid.mk (fun z => refText_any z q (by omega))
        have hlen : Hid (bs.length ≤ 1000) := Hid.mk (by
          rw [hbs]
          have h1 : ∀ (i : Nat) (A : List (Bool × ByteArray)), i + A.length ≤ 6 → (∀ f, f ∈ A → CanF f) → (fromB i A).length ≤ A.length * 60 := by
            intro i A
            induction A generalizing i with
            | nil => intro _ _; exact Nat.le_refl _
            | cons f r ih =>
              intro hi hc
              have h1 := fB_length i f (by simp at hi; omega) (hc f (by simp))
              have h2 := ih (i + 1) (by simp at hi; omega) (fun x hx => hc x (by simp [hx]))
              show (fB i f ++ fromB (i + 1) r).length ≤ (r.length + 1) * 60
              rw [List.length_append]
              omega
          have h2 := h1 0 (F.take k) (by rw [List.length_take, H6.out.len]; omega) (fun f hf => H6.out.can f (List.mem_of_mem_take hf))
          rw [List.length_take, H6.out.len] at h2
          omega)
        clear hbz hnz hZ hfb hcf hq hf hb hbs
        go_wp2_with fail
        rw [← HZ.out]
        have hne := Wider.some Z.heap.size Z
        have k1 := LAY.out
        have hl1 : (wide k).length ≤ 10 := wide_len (by omega)
        have hl2 : (textB q).length ≤ 60 := by
          have h3 : (wide q.size).length ≤ 10 := wide_len (by omega)
          simp only [textB, List.length_append, list_len]
          omega
        have hl0 := hlen.out
        obtain ⟨A, hA⟩ : ∃ A, A = wr.heap.size := ⟨_, rfl⟩
        rw [← hA] at k1 ⊢
        clear hA LAY
        refine wp_region_wider (B := Z.heap.size) (w0 := Z) (by kernel_rfl) (by kernel_rfl) (Below.refl _ Z) ?_
        repeat (go_big_quiet_step ((first
          | (go_at_call 29; refine (C1.out _).mono ?_; rintro e w6 ⟨rfl, hb6⟩; rw [HNN.out]; exact ⟨rfl, ⟨w6, by rename_i g; exact farther (Nat.le_refl _) g.h hb6⟩, rfl⟩)
          | (go_at_call 30; refine (C2.out _).mono ?_; rintro e w6 ⟨rfl, hb6⟩; exact ⟨rfl, ⟨w6, by rename_i g; exact farther (Nat.le_refl _) g.h hb6⟩, rfl⟩))))
        refine wpQuiet_nil ?_
        rintro z ⟨⟨z', hz'⟩, hzz⟩
        have hz : Below Z.heap.size Z z := by rw [hzz]; exact hz'
        have HBE := Hid.mk (HBZ.out.trans (hz.mono HBZ.out.size))
        have HS : Hid ((⟨bs.toArray⟩ ++ ⟨(wide k).toArray⟩ ++ ⟨(textB q).toArray⟩ : ByteArray) = ⟨(fromB 0 (F.take (k + 1))).toArray⟩) := Hid.mk (by
          rw [HTK.out, join_bytes, join_bytes, List.append_assoc])
        clear hz hz' hzz k1 hne
        go_wp2
        go_roundw
        case rel => exact ⟨k + 1, by omega, by rw [← HS.out], by go_num, HBE.out⟩
        case measure => simp [intOf]; omega
      · have hf2 : F[k]!.1 = false := by simpa using hf
        have hfb : fB k F[k]! = [] := fB_no k hf2
        rw [hfb, List.append_nil] at HTK
        simp only [hf2, ← hq] at hx
        rw [hf2, ← hq] at hbz
        have HBZ := Hid.mk hbz
        clear hbz hnz hfb hcf hf hb hbs hq
        go_wp2
        go_roundw
        case rel => exact ⟨k + 1, by omega, by rw [HTK.out], by go_num, HBZ.out⟩
        case measure => simp [intOf]; omega
    · have hge : (6 : Int) ≤ (k : Int) := by omega
      have hke : k = 6 := by omega
      have HE : Hid (F.take k = F) := Hid.mk (by rw [hke]; exact List.take_of_length_le (by rw [H6.out.len]; exact Nat.le_refl _))
      have HBE := Hid.mk hb
      rw [HE.out]
      clear hb hke
      go_wp2
      go_ret
      exact ⟨rfl, HBE.out⟩

end Go.Proofs.Ytabjjjbopbjbeaa.Tom
