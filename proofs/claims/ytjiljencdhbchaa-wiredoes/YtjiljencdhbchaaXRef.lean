/-
  The document's wire in memory, and the walks of its Pump, Take and Crash.
-/
import Derived.Test.YtjiljencdhbchaaXTwo
namespace Go.Proofs.Ytjiljencdhbchaa
open Go.RowKit

/-- The document's wire in block m has these ways. -/
structure Ref (w : World) (m : Nat) (f : Nat → Wy) : Prop where
  at_ : w.heap[m]? = some (.cells #[.string (f 0).all, .int .i64 (f 0).gone, .int .i64 (f 0).came, .string (f 1).all, .int .i64 (f 1).gone, .int .i64 (f 1).came, .string (f 2).all, .int .i64 (f 2).gone, .int .i64 (f 2).came] 32 (0, 0))

/-- Block m, and new ones, alone are others. -/
structure Only (m : Nat) (w w' : World) : Prop where
  os : w'.os = w.os
  tape : w'.tape = w.tape
  output : w'.output = w.output
  size : w.heap.size ≤ w'.heap.size
  block : ∀ k, k < w.heap.size → k ≠ m → w'.heap[k]? = w.heap[k]?

theorem Only.of_below {m : Nat} {w w' : World} (h : Below w.heap.size w w') : Only m w w' := ⟨h.os, h.tape, h.output, h.size, fun k hk _ => h.block k hk⟩
theorem Only.set {m : Nat} {w w' : World} (h : Only m w w') (i : Nat) (x : Value) : Only m w (w'.setCell ⟨m, i, none⟩ x) := by
  refine ⟨h.os, h.tape, h.output, by have := h.size; simpa [World.setCell] using this, fun k hk hm => ?_⟩
  rw [Below.heap_setCell _ _ _ _ hm]
  exact h.block k hk hm
theorem Only.drew {m : Nat} {w w' : World} (h : Only m w w') : Only m w w'.drew := ⟨h.os, h.tape, h.output, h.size, h.block⟩

/-- A box with a way of the document's. -/
structure WyBox (w : World) (k : Nat) (A : ByteArray) (G C : Nat) : Prop where
  at_ : w.heap[k]? = some (.cells #[.string A, .int .i64 G, .int .i64 C] 29 (0, 0))

section
variable {w : World} {k : Nat} {A : ByteArray} {G C : Nat}
theorem WyBox.c0 (h : WyBox w k A G C) : w.cell? ⟨k, 0, none⟩ = some (.string A) := by simp [World.cell?, h.at_]
theorem WyBox.c1 (h : WyBox w k A G C) : w.cell? ⟨k, 1, none⟩ = some (.int .i64 G) := by simp [World.cell?, h.at_]
theorem WyBox.c2 (h : WyBox w k A G C) : w.cell? ⟨k, 2, none⟩ = some (.int .i64 C) := by simp [World.cell?, h.at_]
theorem WyBox.fz (h : WyBox w k A G C) (i : Nat) : w.frozen? ⟨k, i, none⟩ = false := by simp [World.frozen?, h.at_]
theorem WyBox.set1 (h : WyBox w k A G C) (n : Nat) : WyBox (w.setCell ⟨k, 1, none⟩ (.int .i64 n)) k A n C := ⟨by rw [heap_set _ h.at_]; simp⟩
theorem WyBox.set2 (h : WyBox w k A G C) (n : Nat) : WyBox (w.setCell ⟨k, 2, none⟩ (.int .i64 n)) k A G n := ⟨by rw [heap_set _ h.at_]; simp⟩
end

section
variable {w w' : World} {m : Nat} {f : Nat → Wy}
theorem Ref.lt (h : Ref w m f) : m < w.heap.size := (Array.getElem?_eq_some_iff.1 h.at_).1
theorem Ref.ca (h : Ref w m f) : ∀ i, i < 3 → w.cell? ⟨m, i * 3, none⟩ = some (.string (f i).all) :=
  below3 (by simp [World.cell?, h.at_]) (by simp [World.cell?, h.at_]) (by simp [World.cell?, h.at_])
theorem Ref.cg (h : Ref w m f) : ∀ i, i < 3 → w.cell? ⟨m, i * 3 + 1, none⟩ = some (.int .i64 (f i).gone) :=
  below3 (by simp [World.cell?, h.at_]) (by simp [World.cell?, h.at_]) (by simp [World.cell?, h.at_])
theorem Ref.cc (h : Ref w m f) : ∀ i, i < 3 → w.cell? ⟨m, i * 3 + 2, none⟩ = some (.int .i64 (f i).came) :=
  below3 (by simp [World.cell?, h.at_]) (by simp [World.cell?, h.at_]) (by simp [World.cell?, h.at_])
theorem Ref.fz (h : Ref w m f) (i : Nat) : w.frozen? ⟨m, i, none⟩ = false := by simp [World.frozen?, h.at_]
theorem Ref.carry (h : Ref w m f) (hb : w'.heap[m]? = w.heap[m]?) : Ref w' m f := ⟨hb.trans h.at_⟩

/-- A way laid anew. -/
theorem Ref.set3 (h : Ref w m f) (i : Nat) (hi : i < 3) (y : Wy) :
    Ref (((w.setCell ⟨m, i * 3, none⟩ (.string y.all)).setCell ⟨m, i * 3 + 1, none⟩ (.int .i64 y.gone)).setCell ⟨m, i * 3 + 2, none⟩ (.int .i64 y.came)) m (upd f i y) := by
  refine ⟨?_⟩
  rw [heap_set _ (heap_set _ (heap_set _ h.at_))]
  revert i
  exact below3 (by simp [upd]) (by simp [upd]) (by simp [upd])
end

set_option maxHeartbeats 800000 in
set_option maxRecDepth 100000 in
theorem refPump {w : World} {m : Nat} {f : Nat → Wy} (h : Ref w m f) (i : Nat) (hi : i < 3) (hg : (f i).Good) (hsz : (f i).bs.length ≤ 4398046511104) :
    Calls Try.prog 13 #[.pointer (some ⟨m, 0, none⟩), .int .i64 i] w fun e w' => e = .returned (.int .i64 (((f i).pump.gone - (f i).gone : Nat) : Int)) ∧ Ref w' m (upd f i (f i).pump) ∧ Only m w w' := by
  have ca := h.ca i hi
  have cg := h.cg i hi
  have cc := h.cc i hi
  have h1 := hg.le
  have h2 := hg.len
  have h3 := hg.room
  have hlt := h.lt
  obtain ⟨A, hA⟩ : ∃ A, A = (f i).all := ⟨_, rfl⟩
  obtain ⟨C, hC⟩ : ∃ C, C = (f i).came := ⟨_, rfl⟩
  obtain ⟨G, hG⟩ : ∃ G, G = (f i).gone := ⟨_, rfl⟩
  obtain ⟨E, hE⟩ : ∃ E, E = (f i).pump.gone := ⟨_, rfl⟩
  have hL : A.size = (f i).bs.length := by rw [hA]; simp [Wy.all]; rfl
  have hEv : E = min (C + 8) A.size := by rw [hE, hC, hL]; rfl
  rw [← hA] at ca
  rw [← hC] at cc h1 h3
  rw [← hG] at cg h1 h2 h3
  rw [← hL] at h2 hsz
  rw [← hE, ← hG]
  have q0 : ¬ (i : Int) < 0 := by omega
  have q3 : (i : Int) < 3 := by omega
  have HA := Hid.mk hA
  have HC := Hid.mk hC
  have HG := Hid.mk hG
  have HE := Hid.mk hE
  have HEV := Hid.mk hEv
  have H := Hid.mk h
  clear hA hC hG hE h hg hL hEv
  have b0 : WyBox (w.alloc (.cells #[.string A, .int .i64 G, .int .i64 C] 29)) w.heap.size A G C := ⟨heap_alloc_new w _⟩
  go_enter Try.func13, Try.ntmps13
  go_wp2
  go_loopw [6] (fun n wr => ∃ j : Nat, n = .int .i64 j ∧ G + j ≤ E ∧ WyBox wr w.heap.size A (G + j) C ∧ Below w.heap.size w wr) (fun n _ => E - G - (intOf n).toNat)
  case atStart => exact ⟨0, rfl, by have := HEV.out; omega, b0, (Below.refl _ _).alloc (Nat.le_refl _) _⟩
  case round =>
    clear b0
    obtain ⟨j, rfl, hj, bx, hb⟩ := hrel
    have c0 := bx.c0
    have c1 := bx.c1
    have c2 := bx.c2
    have f1 := bx.fz 1
    have hev := HEV.out
    have hB := Hid.mk hb
    have hX := Hid.mk bx
    obtain ⟨g1, hg1⟩ : ∃ g1, g1 = G + j := ⟨_, rfl⟩
    rw [← hg1] at c1
    obtain ⟨D, hD⟩ : ∃ D : Int, D = (g1 : Int) - (C : Int) := ⟨_, rfl⟩
    have e1 : IntKind.i64.wrap ((g1 : Int) - (C : Int)) = D := by rw [IntKind.wrap_i64]; omega
    have HG1 := Hid.mk hg1
    have HJ := Hid.mk hj
    have hjb : j ≤ 4398046511104 := by omega
    by_cases hlt1 : g1 < E
    · have t1 : g1 < A.size := by omega
      have t1' : (g1 : Int) < (A.size : Int) := by omega
      have t2 : D < 8 := by omega
      have HLT1 := Hid.mk hlt1
      clear bx hb hev hg1 hD hlt1 hj
      go_wp2
      go_roundw
      case rel =>
        refine ⟨j + 1, by go_num, by have := HG1.out; have := HLT1.out; omega, ?_, ?_⟩
        · have := hX.out.set1 (g1 + 1)
          have e := HG1.out
          rw [show G + (j + 1) = g1 + 1 by omega]
          simpa using this
        · exact hB.out.setCell (Nat.le_refl _) _
      case measure =>
        have := HG1.out
        have := HLT1.out
        simp [intOf]
        omega
    · have hgE : g1 = E := by omega
      have hR := H.out.carry (hB.out.block m hlt)
      have k0 := hR.ca i hi
      have k1 := hR.cg i hi
      have k2 := hR.cc i hi
      have z0 := hR.fz (i * 3)
      have z1 := hR.fz (i * 3 + 1)
      have z2 := hR.fz (i * 3 + 2)
      have HR := Hid.mk (hR.set3 i hi (f i).pump)
      have HO := Hid.mk (((((Only.of_below (m := m) hB.out).set (i * 3) (.string A)).set (i * 3 + 1) (.int .i64 g1)).set (i * 3 + 2) (.int .i64 C)).drew)
      rw [← HE.out, show (f i).pump.all = A from HA.out.symm, show (f i).pump.came = C from HC.out.symm, ← hgE] at HR
      have HJE := Hid.mk (show j = E - G by omega)
      clear hX hR
      have hlo := hB.out.size
      by_cases t1 : g1 < A.size
      · have t1' : (g1 : Int) < (A.size : Int) := by omega
        have t2 : ¬ D < 8 := by omega
        clear bx hb hev hg1 hD hj hgE hlt1 hlt
        go_wp2_with fail
        go_region
        all_goals
          go_wp2
          go_ret
          exact ⟨by rw [← HJE.out]; rfl, ⟨HR.out.at_⟩, HO.out⟩
      · have t1' : ¬ (g1 : Int) < (A.size : Int) := by omega
        clear bx hb hev hg1 hD hj hgE hlt1 hlt
        go_wp2_with fail
        go_region
        all_goals
          go_wp2
          go_ret
          exact ⟨by rw [← HJE.out]; rfl, ⟨HR.out.at_⟩, HO.out⟩

theorem extract_part (y : Wy) (i j : Nat) : y.all.extract i j = y.part i j := by
  apply ByteArray.ext
  rw [ByteArray.data_extract]
  apply Array.toList_inj.1
  show (y.bs.toArray.extract i j).toList = (((y.bs.take j).drop i).toArray).toList
  simp [List.extract_eq_take_drop, List.drop_take]

set_option maxHeartbeats 1600000 in
set_option maxRecDepth 100000 in
theorem refTake {w : World} {m : Nat} {f : Nat → Wy} (h : Ref w m f) (i : Nat) (hi : i < 3) (n : Int) (hn : n ≤ 9223372036854775807) (hg : (f i).Good) (hsz : (f i).bs.length ≤ 4398046511104) :
    Calls Try.prog 15 #[.pointer (some ⟨m, 0, none⟩), .int .i64 i, .int .i64 n] w fun e w' => e = .returned (.string ((f i).part (f i).came ((f i).take n).came)) ∧ Ref w' m (upd f i ((f i).take n)) ∧ Only m w w' := by
  have ca := h.ca i hi
  have cg := h.cg i hi
  have cc := h.cc i hi
  have h1 := hg.le
  have h2 := hg.len
  have hlt := h.lt
  rw [← extract_part]
  obtain ⟨A, hA⟩ : ∃ A, A = (f i).all := ⟨_, rfl⟩
  obtain ⟨C, hC⟩ : ∃ C, C = (f i).came := ⟨_, rfl⟩
  obtain ⟨G, hG⟩ : ∃ G, G = (f i).gone := ⟨_, rfl⟩
  obtain ⟨E, hE⟩ : ∃ E, E = ((f i).take n).came := ⟨_, rfl⟩
  have hL : A.size = (f i).bs.length := by rw [hA]; simp [Wy.all]; rfl
  have hEv : E = C + min n.toNat (G - C) := by rw [hE, hC, hG]; rfl
  rw [← hA] at ca ⊢
  rw [← hC] at cc h1 ⊢
  rw [← hG] at cg h1 h2
  rw [← hL] at h2 hsz
  rw [← hE]
  have q0 : ¬ (i : Int) < 0 := by omega
  have q3 : (i : Int) < 3 := by omega
  have HA := Hid.mk hA
  have HC := Hid.mk hC
  have HG := Hid.mk hG
  have HE := Hid.mk hE
  have HEV := Hid.mk hEv
  have HN := Hid.mk hn
  have H := Hid.mk h
  clear hA hC hG hE h hg hL hEv hn
  have b0 : WyBox (w.alloc (.cells #[.string A, .int .i64 G, .int .i64 C] 29)) w.heap.size A G C := ⟨heap_alloc_new w _⟩
  go_enter Try.func15, Try.ntmps15
  go_wp2
  go_loopw [2] (fun v wr => ∃ j : Nat, v = .int .i64 (n - j) ∧ C + j ≤ E ∧ WyBox wr w.heap.size A G (C + j) ∧ Below w.heap.size w wr) (fun v _ => (intOf v).toNat)
  case atStart => exact ⟨0, by simp, by have := HEV.out; omega, b0, (Below.refl _ _).alloc (Nat.le_refl _) _⟩
  case round =>
    clear b0
    obtain ⟨j, rfl, hj, bx, hb⟩ := hrel
    have c0 := bx.c0
    have c1 := bx.c1
    have c2 := bx.c2
    have f2 := bx.fz 2
    have hev := HEV.out
    have hB := Hid.mk hb
    have hX := Hid.mk bx
    obtain ⟨g1, hg1⟩ : ∃ g1, g1 = C + j := ⟨_, rfl⟩
    rw [← hg1] at c2
    obtain ⟨nj, hnj⟩ : ∃ nj : Int, nj = n - (j : Int) := ⟨_, rfl⟩
    rw [← hnj]
    have HG1 := Hid.mk hg1
    have HNJ := Hid.mk hnj
    by_cases hlt1 : g1 < E
    · have t0 : 0 < nj := by omega
      have t1 : g1 < G := by omega
      have t1' : (g1 : Int) < (G : Int) := by omega
      have HLT1 := Hid.mk hlt1
      have e1 : IntKind.i64.wrap ((g1 : Int) + 1) = ((g1 + 1 : Nat) : Int) := by rw [IntKind.wrap_i64]; omega
      have e2 : IntKind.i64.wrap (nj - 1) = nj - 1 := by have := HN.out; rw [IntKind.wrap_i64]; omega
      clear bx hb hev hg1 hlt1 hj hnj
      go_wp2
      go_roundw
      case rel =>
        refine ⟨j + 1, ?_, by have := HG1.out; have := HLT1.out; omega, ?_, ?_⟩
        · have := HNJ.out
          exact congrArg (Value.int IntKind.i64) (by omega)
        · have := hX.out.set2 (g1 + 1)
          have e := HG1.out
          rw [show C + (j + 1) = g1 + 1 by omega]
          simpa using this
        · exact hB.out.setCell (Nat.le_refl _) _
      case measure =>
        simp [intOf]
        omega
    · have hgE : g1 = E := by omega
      have hR := H.out.carry (hB.out.block m hlt)
      have k0 := hR.ca i hi
      have k1 := hR.cg i hi
      have k2 := hR.cc i hi
      have z0 := hR.fz (i * 3)
      have z1 := hR.fz (i * 3 + 1)
      have z2 := hR.fz (i * 3 + 2)
      have HR := Hid.mk (hR.set3 i hi ((f i).take n))
      have HO := Hid.mk (((((Only.of_below (m := m) hB.out).set (i * 3) (.string A)).set (i * 3 + 1) (.int .i64 G)).set (i * 3 + 2) (.int .i64 g1)).drew)
      rw [← HE.out, show ((f i).take n).all = A from HA.out.symm, show ((f i).take n).gone = G from HG.out.symm, ← hgE] at HR
      have HGE := Hid.mk hgE
      have u0 : (0 : Int) ≤ (C : Int) := by omega
      have u1 : (C : Int) ≤ (g1 : Int) := by omega
      have u2 : (g1 : Int) ≤ (A.size : Int) := by omega
      have u3 : g1 ≤ A.size := by omega
      have u4 : C ≤ g1 := by omega
      have n1 : ¬ w.heap.size = m := by omega
      have n2 : ¬ m = w.heap.size := by omega
      clear hX hR
      have hlo := hB.out.size
      by_cases t0 : 0 < nj
      · have t1 : ¬ g1 < G := by omega
        have t1' : ¬ (g1 : Int) < (G : Int) := by omega
        clear bx hb hev hg1 hj hgE hlt1 hlt hnj
        go_wp2_with fail
        go_region
        all_goals
          go_wp2
          go_ret
          exact ⟨by rw [← HGE.out]; rfl, ⟨HR.out.at_⟩, HO.out⟩
      · clear bx hb hev hg1 hj hgE hlt1 hlt hnj
        go_wp2_with fail
        go_region
        all_goals
          go_wp2
          go_ret
          exact ⟨by rw [← HGE.out]; rfl, ⟨HR.out.at_⟩, HO.out⟩

end Go.Proofs.Ytjiljencdhbchaa
