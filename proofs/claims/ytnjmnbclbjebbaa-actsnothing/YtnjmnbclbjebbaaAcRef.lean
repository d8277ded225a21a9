/-
  The document's Of, First, Undo, Count: walks.
-/
import Derived.Test.YtnjmnbclbjebbaaAcCalls
namespace Go.Proofs.Ytnjmnbclbjebbaa.Ac
open Go.RowKit Go.Deep Go.Proofs.Ytnjmnbclbjebbaa.Cel Go.Proofs.Ytnjmnbclbjebbaa.Dft

set_option maxRecDepth 100000 in
theorem Try.infoA : (Try.prog.info? 32).map (fun i => (i.zero, i.size, i.bytes)) = some (some (.agg #[.int .i64 0, .int .i64 0, .int .i64 0]), 3, 24) := by kernel_rfl

theorem act_news (w : World) (x : A3) : ∀ j u, (eA x)[j]? = some u → (w.alloc (.cells #[.int .i64 x.1, .int .i64 x.2.1, .int .i64 x.2.2] 32)).cell? ((⟨w.heap.size, 0, none⟩ : Addr).add j) = some u :=
  World.news_of_block (heap_new w (.cells #[.int .i64 x.1, .int .i64 x.2.1, .int .i64 x.2.2] 32))

section
variable {w w' : World}

/-- One of a view's acts. -/
theorem View.act {a : Option Addr} {len cap : Nat} {all : List A3} (h : View w eA 3 a len cap all) (j : Nat) (hj : j < len) : ∃ (hz : j < all.length) (g off : Nat), a = some ⟨g, off, none⟩ ∧ w.cell? ⟨g, off + j * 3, none⟩ = some (.int .i64 all[j].1) ∧ w.cell? ⟨g, off + j * 3 + 1, none⟩ = some (.int .i64 all[j].2.1) ∧ w.cell? ⟨g, off + j * 3 + 2, none⟩ = some (.int .i64 all[j].2.2) := by
  obtain ⟨g, off, e, hat⟩ := h.at_ (by omega)
  have hz : j < all.length := by rw [h.1]; exact hj
  exact ⟨hz, g, off, e, hat.c j hz 0 _ rfl, hat.c j hz 1 _ rfl, hat.c j hz 2 _ rfl⟩

set_option maxHeartbeats 2000000 in
set_option maxRecDepth 100000 in
theorem refOf_any {a : Option Addr} {len cap : Nat} {all : List A3} (hv : View w eA 3 a len cap all) (hs : len ≤ 1000000) (k : Int) :
    Calls Try.prog 15 #[.slice a len cap, .int .i64 k] w fun e w' => ∃ v, e = .returned v ∧ w'.ownsRow w.heap.size 32 3 v (ofK all k).length (flat eA (ofK all k)) ∧ Below w.heap.size w w' := by
  obtain ⟨i0, hi, hz0, hz1, hz2⟩ := info_parts Try.infoA
  have HV := Hid.mk hv
  have HL := Hid.mk hv.1
  clear hv
  go_enter Try.func15, Try.ntmps15
  go_wp2
  go_loopw [5, 7, 10] (fun o _ i wr => ∃ j : Nat, j ≤ len ∧ i = .int .i64 j ∧ Hid (wr.ownsRow w.heap.size 32 3 o (ofK (all.take j) k).length (flat eA (ofK (all.take j) k))) ∧ Hid (Below w.heap.size w wr)) (fun _ _ i _ => len - (intOf i).toNat)
  case atStart => exact ⟨0, Nat.zero_le _, rfl, Hid.mk ⟨rfl, .inl ⟨rfl, rfl⟩⟩, Hid.mk (Below.refl _ _)⟩
  case round =>
    obtain ⟨j, hj, rfl, HO, HB⟩ := hrel
    by_cases hlt : j < len
    · obtain ⟨hz, g, off, rfl, c0, c1, c2⟩ := (HV.out.grown HB.out).act j hlt
      obtain ⟨x, hx⟩ : ∃ x, x = all[j] := ⟨_, rfl⟩
      have hst : all.take (j + 1) = all.take j ++ [x] := by rw [List.take_succ_eq_append_getElem hz, hx]
      rw [← hx] at c0 c1 c2
      have hsn := ofK_snoc (all.take j) x k
      rw [← hst] at hsn
      have hle : (ofK (all.take j) k).length ≤ 1000000 := Nat.le_trans (ofK_len _ _) (by rw [List.length_take]; omega)
      have HST := Hid.mk hsn
      have HLE := Hid.mk hle
      have HK := Hid.mk hlt
      have HBS := Hid.mk HB.out.size
      clear hx hst hsn hle
      obtain ⟨va, vc, rfl⟩ := row_shape HO.out
      by_cases hk : x.1 = k
      · rw [if_pos hk] at HST
        subst hk
        have hnews := act_news (wr.alloc (.cells #[.int .i64 x.1, .int .i64 x.2.1, .int .i64 x.2.2] 32)) x
        rw [World.size_alloc] at hnews
        have HNW := Hid.mk hnews
        clear hnews
        have HB1 := Hid.mk ((HB.out.alloc HB.out.size (.cells #[.int .i64 x.1, .int .i64 x.2.1, .int .i64 x.2.2] 32)).alloc (by have := HB.out.size; simp; omega) (.cells #[.int .i64 x.1, .int .i64 x.2.1, .int .i64 x.2.2] 32))
        have HO1 := Hid.mk ((HO.out.alloc (.cells #[.int .i64 x.1, .int .i64 x.2.1, .int .i64 x.2.2] 32)).alloc (.cells #[.int .i64 x.1, .int .i64 x.2.1, .int .i64 x.2.2] 32))
        go_wp2_with (at_builtin; go_loud (refine wpList_append_opt _ rfl (.tmp 18) (.tmp 20) 30 rfl w.heap.size 32 i0 _ 3 24 Try.underlying30 hi hz0 hz1 hz2 rfl (by decide) _ _ _ rfl HO1.out (some ⟨wr.heap.size + 1, 0, none⟩) 1 1 (eA x) rfl (fun e => absurd e (by simp)) rfl (fun q e => by injection e with e; subst e; exact HNW.out) (eA_one x) (by have := HLE.out; unfold maxLen; omega) (by have := HLE.out; omega) (by have := HBS.out; simp; omega) ?_); intro v' w2 ho hg; obtain ⟨ya, yc, rfl⟩ := row_shape ho.out)
        go_roundw
        case rel =>
          refine ⟨j + 1, HK.out, by go_num, ?_, Hid.mk (HB1.out.grown hg.out HB1.out.size (fun r e => (HO1.out.lt r e).1))⟩
          rw [HST.out]
          refine Hid.mk ?_
          rw [List.length_append, flat_append, flat_one]
          exact ho.out
        case measure => have := HK.out; simp [intOf]; omega
      · rw [if_neg hk] at HST
        have HB1 := Hid.mk (HB.out.alloc HB.out.size (.cells #[.int .i64 x.1, .int .i64 x.2.1, .int .i64 x.2.2] 32))
        have HO1 := Hid.mk (HO.out.alloc (.cells #[.int .i64 x.1, .int .i64 x.2.1, .int .i64 x.2.2] 32))
        go_wp2
        go_roundw
        case rel =>
          refine ⟨j + 1, HK.out, by go_num, ?_, HB1⟩
          rw [HST.out]
          exact HO1
        case measure => have := HK.out; simp [intOf]; omega
    · have hjl : j = len := by omega
      have hall : all.take j = all := by rw [hjl]; exact List.take_of_length_le (Nat.le_of_eq HL.out)
      rw [hall] at HO
      have hnk : ¬ (j : Int) < (len : Int) := by omega
      clear hjl hall
      obtain ⟨va, vc, rfl⟩ := row_shape HO.out
      go_wp2
      go_ret
      exact ⟨_, rfl, HO.out, HB.out⟩

theorem lit_own (w : World) {B : Nat} (hB : B ≤ w.heap.size) (x : A3) : (w.alloc (.cells #[.int .i64 x.1, .int .i64 x.2.1, .int .i64 x.2.2] 32)).ownsRow B 32 3 (.slice (some ⟨w.heap.size, 0, none⟩) 1 1) 1 (eA x) :=
  ⟨rfl, .inr ⟨w.heap.size, 1, _, rfl, hB, heap_new _ _, Nat.le_refl _, by unfold maxLen; omega, rfl, rfl⟩⟩

def undoF (x : A3) : A3 := (3, x.2.1, negI x.2.2)
theorem undoL_eq (all : List A3) : undoL all = (ofK all 3).reverse.map undoF := rfl
theorem undo_succ (L : List A3) (j : Nat) (hj : j < L.length) : (L.take (j + 1)).reverse.map undoF = undoF L[j] :: (L.take j).reverse.map undoF := by
  rw [List.take_succ_eq_append_getElem hj, List.reverse_append, List.map_append]
  rfl
theorem flat_cons {α : Type} {enc : α → List Value} (x : α) (l : List α) : flat enc (x :: l) = enc x ++ flat enc l := by simp [flat]

/-- A row of one's own can be read. -/
theorem own_view {α : Type} {enc : α → List Value} {size : Nat} (hE : ∀ x, (enc x).length = size) {B : Nat} {e : TypeId} {a : Option Addr} {len cap n : Nat} {l : List α} (h : w.ownsRow B e size (.slice a len cap) n (flat enc l)) (hn : n = l.length) : View w enc size a len cap l := by
  subst hn
  exact Held.view hE (Held.of_own h)

set_option maxHeartbeats 4000000 in
set_option maxRecDepth 100000 in
theorem refUndo_any {a : Option Addr} {len cap : Nat} {all : List A3} (hv : View w eA 3 a len cap all) (hs : len ≤ 1000000) :
    Calls Try.prog 12 #[.slice a len cap] w fun e w' => ∃ v, e = .returned v ∧ w'.ownsRow w.heap.size 32 3 v (undoL all).length (flat eA (undoL all)) ∧ Below w.heap.size w w' := by
  obtain ⟨i0, hi, hz0, hz1, hz2⟩ := info_parts Try.infoA
  have HOF := Hid.mk (refOf_any hv hs 3)
  obtain ⟨L, hL⟩ : ∃ L, L = ofK all 3 := ⟨_, rfl⟩
  have hLs : L.length ≤ 1000000 := by rw [hL]; exact Nat.le_trans (ofK_len _ _) (by rw [hv.1]; exact hs)
  rw [undoL_eq]
  rw [← hL] at HOF ⊢
  have HLS := Hid.mk hLs
  clear hv hL hLs
  go_enter Try.func12, Try.ntmps12
  go_wp2_with fail
  refine HOF.out.mono ?_
  rintro e w1 ⟨v, rfl, ho, hb⟩
  obtain ⟨la, lc, rfl⟩ := row_shape ho
  have HV := Hid.mk (own_view eA_len ho rfl)
  have HB1 := Hid.mk hb
  clear ho hb
  go_wp2
  go_loopw [3, 5, 9] (fun o _ i wr => ∃ j : Nat, j ≤ L.length ∧ i = .int .i64 j ∧ Hid (wr.ownsRow w.heap.size 32 3 o j (flat eA ((L.take j).reverse.map undoF))) ∧ Hid (Below w1.heap.size w1 wr)) (fun _ _ i _ => L.length - (intOf i).toNat)
  case atStart => exact ⟨0, Nat.zero_le _, rfl, Hid.mk ⟨rfl, .inl ⟨rfl, rfl⟩⟩, Hid.mk (Below.refl _ _)⟩
  case round =>
    obtain ⟨j, hj, rfl, HO, HB⟩ := hrel
    by_cases hlt : j < L.length
    · obtain ⟨hz, g, off, rfl, c0, c1, c2⟩ := (HV.out.grown HB.out).act j hlt
      obtain ⟨x, hx⟩ : ∃ x, x = L[j] := ⟨_, rfl⟩
      have hst := undo_succ L j hz
      rw [← hx] at c0 c1 c2 hst
      have HST := Hid.mk hst
      have HK := Hid.mk hlt
      have HBS : Hid (w.heap.size ≤ wr.heap.size) := Hid.mk (by have := HB.out.size; have := HB1.out.size; omega)
      clear hx hst
      obtain ⟨va, vc, rfl⟩ := row_shape HO.out
      have hv2 : View wr eA 3 va j vc ((L.take j).reverse.map undoF) := own_view eA_len HO.out (by simp; omega)
      have hop := (hv2.grown (((Below.refl _ wr).alloc (Nat.le_refl _) (.cells #[.int .i64 x.1, .int .i64 x.2.1, .int .i64 x.2.2] 32)).alloc (by simp) (.cells #[.int .i64 3, .int .i64 x.2.1, .int .i64 (wrap64 (-x.2.2))] 32))).opt eA_len (by decide)
      have HNO := Hid.mk hop.1
      have HFL := Hid.mk hop.2.1
      have HNW := Hid.mk hop.2.2
      have hlo := lit_own (wr.alloc (.cells #[.int .i64 x.1, .int .i64 x.2.1, .int .i64 x.2.2] 32)) (B := w.heap.size) (by have := HBS.out; simp; omega) (3, x.2.1, wrap64 (-x.2.2))
      rw [World.size_alloc] at hlo
      have HLO := Hid.mk hlo
      have HBB := Hid.mk ((HB.out.alloc HB.out.size (.cells #[.int .i64 x.1, .int .i64 x.2.1, .int .i64 x.2.2] 32)).alloc (by have := HB.out.size; simp; omega) (.cells #[.int .i64 3, .int .i64 x.2.1, .int .i64 (wrap64 (-x.2.2))] 32))
      have hls := HLS.out
      clear hv2 hop hlo
      go_wp2_with (at_builtin; go_loud (refine wpList_append_opt _ rfl (.tmp 19) (.tmp 20) 30 rfl w.heap.size 32 i0 _ 3 24 Try.underlying30 hi hz0 hz1 hz2 rfl (by decide) (.slice (some ⟨wr.heap.size + 1, 0, none⟩) 1 1) 1 (eA (3, x.2.1, wrap64 (-x.2.2))) rfl HLO.out va j vc (flat eA ((L.take j).reverse.map undoF)) rfl HNO.out HFL.out HNW.out (flat_one_cell eA_one _) (by have := HK.out; unfold maxLen; omega) (by have := HK.out; omega) (by have := HBS.out; simp; omega) ?_); intro v' w2 ho hg; obtain ⟨ya, yc, rfl⟩ := row_shape ho.out)
      go_roundw
      case rel =>
        refine ⟨j + 1, HK.out, by go_num, Hid.mk ?_, Hid.mk (HBB.out.grown hg.out HBB.out.size (fun r e => by cases e; have := HB.out.size; show w1.heap.size ≤ wr.heap.size + 1; omega))⟩
        rw [HST.out, flat_cons]
        have h := ho.out
        rw [show 1 + j = j + 1 by omega] at h ⊢
        exact h
      case measure => have := HK.out; simp [intOf]; omega
    · have hjl : j = L.length := by omega
      have hall : L.take j = L := by rw [hjl]; exact List.take_length
      rw [hall] at HO
      have hnk : ¬ (j : Int) < (L.length : Int) := by omega
      obtain ⟨va, vc, rfl⟩ := row_shape HO.out
      have HJL := Hid.mk hjl
      clear hjl hall
      go_wp2
      go_ret
      refine ⟨_, rfl, ?_, HB1.out.trans (HB.out.mono HB1.out.size)⟩
      have h := HO.out
      rw [List.map_reverse] at h
      rw [← HJL.out]
      exact h

end

end Go.Proofs.Ytnjmnbclbjebbaa.Ac
