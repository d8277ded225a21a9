/-
  The document's Read: the files that bytes are; or none.
-/
import Derived.Test.YtabjjjbopbjbeaaTRead
import Derived.Test.YtabjjjbopbjbeaaTRef
import Derived.Test.YtabjjjbopbjbeaaYTaken
namespace Go.Proofs.Ytabjjjbopbjbeaa.Tom
open Go.RowKit Cel
open Sty (taken_any Lead extract_list)

/-- Files by value. -/
def filesC (F : List (Bool × ByteArray)) : List Value := F.flatMap fun x => [.bool x.1, .string x.2]

theorem six_files {F : List (Bool × ByteArray)} (h : F.length = 6) : ∃ a b c d e f, F = [a, b, c, d, e, f] := by
  match F, h with
  | [a, b, c, d, e, f], _ => exact ⟨a, b, c, d, e, f, rfl⟩

theorem filesC_get {F : List (Bool × ByteArray)} (h : F.length = 6) (j : Nat) (hj : j < 6) : (filesC F)[j * 2]? = some (.bool F[j]!.1) ∧ (filesC F)[j * 2 + 1]? = some (.string F[j]!.2) := by
  obtain ⟨a, b, c, d, e, f, rfl⟩ := six_files h
  have hc : j = 0 ∨ j = 1 ∨ j = 2 ∨ j = 3 ∨ j = 4 ∨ j = 5 := by omega
  rcases hc with rfl | rfl | rfl | rfl | rfl | rfl <;> exact ⟨rfl, rfl⟩

theorem filesC_set {F : List (Bool × ByteArray)} (h : F.length = 6) (j : Nat) (hj : j < 6) (x : Bool × ByteArray) : ((filesC F).set (j * 2) (.bool x.1)).set (j * 2 + 1) (.string x.2) = filesC (F.set j x) := by
  obtain ⟨a, b, c, d, e, f, rfl⟩ := six_files h
  have hc : j = 0 ∨ j = 1 ∨ j = 2 ∨ j = 3 ∨ j = 4 ∨ j = 5 := by omega
  rcases hc with rfl | rfl | rfl | rfl | rfl | rfl <;> rfl

/-- Files by value in block o. -/
structure OutAt (w : World) (o : Nat) (F : List (Bool × ByteArray)) : Prop where
  at_ : w.heap[o]? = some (.cells (filesC F).toArray 30 (0, 0))
  len : F.length = 6

section
variable {w w' : World} {o : Nat} {F : List (Bool × ByteArray)}

theorem OutAt.is (h : OutAt w o F) (j : Nat) (hj : j < 6) : w.cell? ⟨o, j * 2, none⟩ = some (.bool F[j]!.1) := cell_at h.at_ (by simpa using (filesC_get h.len j hj).1)
theorem OutAt.text (h : OutAt w o F) (j : Nat) (hj : j < 6) : w.cell? ⟨o, j * 2 + 1, none⟩ = some (.string F[j]!.2) := cell_at h.at_ (by simpa using (filesC_get h.len j hj).2)
theorem OutAt.fz (h : OutAt w o F) (i : Nat) : w.frozen? ⟨o, i, none⟩ = false := free_at h.at_
theorem OutAt.lt (h : OutAt w o F) : o < w.heap.size := (Array.getElem?_eq_some_iff.1 h.at_).1
theorem OutAt.grown (h : OutAt w o F) (hb : Below w.heap.size w w') : OutAt w' o F := ⟨(hb.block o h.lt).trans h.at_, h.len⟩
theorem OutAt.set (h : OutAt w o F) (j : Nat) (hj : j < 6) (x : Bool × ByteArray) : OutAt ((w.setCell ⟨o, j * 2, none⟩ (.bool x.1)).setCell ⟨o, j * 2 + 1, none⟩ (.string x.2)) o (F.set j x) := by
  refine ⟨?_, by rw [List.length_set]; exact h.len⟩
  rw [heap_set _ (heap_set _ h.at_), ← filesC_set h.len j hj x]
  simp

end

/-- What the document's Read answers. -/
def RefReadsTo (b : ByteArray) (e : Ending) : Prop :=
  (∃ F, Six F ∧ fromB 0 F = b.data.toList ∧ e = .returned (.tuple #[.agg (filesC F).toArray, .bool true])) ∨
  (e = .returned (.tuple #[.agg (filesC noF).toArray, .bool false]) ∧ ∀ G, Six G → fromB 0 G ≠ b.data.toList)

theorem noC : (filesC noF).toArray = #[.bool false, .string ⟨#[]⟩, .bool false, .string ⟨#[]⟩, .bool false, .string ⟨#[]⟩, .bool false, .string ⟨#[]⟩, .bool false, .string ⟨#[]⟩, .bool false, .string ⟨#[]⟩] := rfl

set_option maxRecDepth 100000 in
theorem Try.len6 : Try.prog.arrayLen 30 = 6 := by kernel_rfl
set_option maxRecDepth 100000 in
theorem Try.elem6 : (sizeOf (Try.prog.elem 30)).run Try.prog = fun w => .ok 2 w := by
  funext w
  have e : Try.prog.elem 30 = 29 := by kernel_rfl
  rw [e]
  rfl

set_option maxRecDepth 100000 in
/-- A part of an array that lies in block o, from n on. -/
theorem run_cut (o n : Nat) (hn : n < 6) (w : World) : (Instr.sliceAt 30 (.pointer (some ⟨o, 0, none⟩)) (some (.int .u64 (n : Int))) none none).run Try.prog w = .ok (.slice (some ⟨o, n * 2, none⟩) (6 - n) (6 - n)) w := by
  have ht : Try.prog.underlying 30 = some (.array (Try.prog.arrayLen 30) (Try.prog.elem 30)) := by kernel_rfl
  rw [run_sliceAt_array_l w _ ⟨o, 0, none⟩ ht .u64 (n : Int) (by omega) (by rw [Try.len6]; omega), Try.elem6, Try.len6]
  have e : slicedAt ⟨o, 0, none⟩ (n : Int).toNat 6 6 2 = .slice (some ⟨o, n * 2, none⟩) (6 - n) (6 - n) := by
    unfold slicedAt
    rw [Int.toNat_natCast, if_neg (by omega), Cel.add_plain, Nat.zero_add]
  exact congrArg (fun x => Result.ok x w) e

theorem extract_mid (s : ByteArray) (i n : Nat) : (s.extract i (i + n)).data.toList = (s.data.toList.drop i).take n := by
  simp [List.extract_eq_take_drop]

def sizeV : Value → Nat
  | .string s => s.size
  | _ => 0

theorem sets12 {B : Nat} {w z : World} (h : Below B w z) (v0 v1 v2 v3 v4 v5 v6 v7 v8 v9 v10 v11 : Value) : Below B w ((((((((((((z.setCell ⟨B, 0, none⟩ v0).setCell ⟨B, 1, none⟩ v1).setCell ⟨B, 2, none⟩ v2).setCell ⟨B, 3, none⟩ v3).setCell ⟨B, 4, none⟩ v4).setCell ⟨B, 5, none⟩ v5).setCell ⟨B, 6, none⟩ v6).setCell ⟨B, 7, none⟩ v7).setCell ⟨B, 8, none⟩ v8).setCell ⟨B, 9, none⟩ v9).setCell ⟨B, 10, none⟩ v10).setCell ⟨B, 11, none⟩ v11) :=
  ((((((((((((h.setCell (p := ⟨B, 0, none⟩) (Nat.le_refl _) v0).setCell (p := ⟨B, 1, none⟩) (Nat.le_refl _) v1).setCell (p := ⟨B, 2, none⟩) (Nat.le_refl _) v2).setCell (p := ⟨B, 3, none⟩) (Nat.le_refl _) v3).setCell (p := ⟨B, 4, none⟩) (Nat.le_refl _) v4).setCell (p := ⟨B, 5, none⟩) (Nat.le_refl _) v5).setCell (p := ⟨B, 6, none⟩) (Nat.le_refl _) v6).setCell (p := ⟨B, 7, none⟩) (Nat.le_refl _) v7).setCell (p := ⟨B, 8, none⟩) (Nat.le_refl _) v8).setCell (p := ⟨B, 9, none⟩) (Nat.le_refl _) v9).setCell (p := ⟨B, 10, none⟩) (Nat.le_refl _) v10).setCell (p := ⟨B, 11, none⟩) (Nat.le_refl _) v11)

set_option maxHeartbeats 8000000 in
set_option maxRecDepth 100000 in
theorem refRead_any (b : ByteArray) (hb300 : b.size ≤ 300) (w : World) : Calls Try.prog 17 #[.string b] w fun e w' => RefReadsTo b e ∧ Below w.heap.size w w' := by
  obtain ⟨w0, hw0⟩ : ∃ w0, w0 = (w.alloc (.cells (filesC noF).toArray 30)).alloc (.cells (filesC noF).toArray 30) := ⟨_, rfl⟩
  have hO : OutAt w0 (w.heap.size + 1) noF := by
    have h := heap_new (w.alloc (.cells (filesC noF).toArray 30)) (.cells (filesC noF).toArray 30)
    rw [World.size_alloc, ← hw0] at h
    exact ⟨h, rfl⟩
  have hX : OutAt w0 w.heap.size noF := by
    rw [hw0]
    exact ⟨(Below.heap_alloc _ _ _ (by simp)).trans (heap_new _ _), rfl⟩
  have hb0 : Below w.heap.size w w0 := by rw [hw0]; exact ((Below.refl _ w).alloc (Nat.le_refl _) _).alloc (by simp) _
  have HO := Hid.mk hO
  have HX := Hid.mk hX
  have HB := Hid.mk hb0
  rw [noC] at hw0
  clear hO hX hb0
  go_enter Try.func17, Try.ntmps17
  go_wp2_with fail
  rw [← hw0]
  obtain ⟨o, ho⟩ : ∃ o, w.heap.size + 1 = o := ⟨_, rfl⟩
  obtain ⟨r, hr⟩ : ∃ r, w.heap.size = r := ⟨_, rfl⟩
  rw [ho, hr]
  rw [ho] at HO
  rw [hr] at HX HB
  have hro : r ≠ o := by omega
  have HOR := Hid.mk (show o = r + 1 by omega)
  have HWR := Hid.mk hr
  clear hw0 ho hr
  go_loopw [0, 5, 6, 7, 8, 10] (fun bv _ _ _ _ _ wr => ∃ (F : List (Bool × ByteArray)) (k : Nat) (s : ByteArray), bv = .string s ∧ s.size ≤ 300 ∧ OutAt wr o F ∧ OutAt wr r noF ∧ Told b.data.toList F k s.data.toList ∧ Below r w wr) (fun bv _ _ _ _ _ _ => sizeV bv)
  case atStart => exact ⟨noF, 0, b, rfl, hb300, HO.out, HX.out, Told.start _, HB.out⟩
  case round =>
    clear HO HX HB
    obtain ⟨F, k, s, rfl, hs300, hO, hX, hD, hb⟩ := hrel
    have HO := Hid.mk hO
    have HX := Hid.mk hX
    have HD := Hid.mk hD
    have HB := Hid.mk hb
    have hxs : ∀ i, i < 12 → ∃ v, wr.cell? ⟨r, i, none⟩ = some v := fun i hi => by
      have h := hX.at_
      rw [noC] at h
      refine ⟨_, cell_at h (Array.getElem?_eq_getElem (by simpa using hi))⟩
    obtain ⟨x0, e0⟩ := hxs 0 (by decide)
    obtain ⟨x1, e1⟩ := hxs 1 (by decide)
    obtain ⟨x2, e2⟩ := hxs 2 (by decide)
    obtain ⟨x3, e3⟩ := hxs 3 (by decide)
    obtain ⟨x4, e4⟩ := hxs 4 (by decide)
    obtain ⟨x5, e5⟩ := hxs 5 (by decide)
    obtain ⟨x6, e6⟩ := hxs 6 (by decide)
    obtain ⟨x7, e7⟩ := hxs 7 (by decide)
    obtain ⟨x8, e8⟩ := hxs 8 (by decide)
    obtain ⟨x9, e9⟩ := hxs 9 (by decide)
    obtain ⟨x10, e10⟩ := hxs 10 (by decide)
    obtain ⟨x11, e11⟩ := hxs 11 (by decide)
    have f0 := hX.fz 0
    have f1 := hX.fz 1
    have f2 := hX.fz 2
    have f3 := hX.fz 3
    have f4 := hX.fz 4
    have f5 := hX.fz 5
    have f6 := hX.fz 6
    have f7 := hX.fz 7
    have f8 := hX.fz 8
    have f9 := hX.fz 9
    have f10 := hX.fz 10
    have f11 := hX.fz 11
    clear hO hX hD hb hxs
    by_cases hs : s.size = 0
    · have hsi : ¬ (0 : Int) < (s.size : Int) := by omega
      have hsn : ¬ 0 < s.size := by omega
      have HE : Hid (fromB 0 F = b.data.toList) := Hid.mk (by
        have h := HD.out
        rw [size_zero hs] at h
        exact h.done)
      obtain ⟨fa, fb, fc, fd, fe, ff, hFe⟩ := six_files HO.out.len
      have hat := HO.out.at_
      rw [hFe] at hat
      have o0 : wr.cell? ⟨o, 0, none⟩ = some (.bool fa.1) := cell_at hat rfl
      have o1 : wr.cell? ⟨o, 1, none⟩ = some (.string fa.2) := cell_at hat rfl
      have o2 : wr.cell? ⟨o, 2, none⟩ = some (.bool fb.1) := cell_at hat rfl
      have o3 : wr.cell? ⟨o, 3, none⟩ = some (.string fb.2) := cell_at hat rfl
      have o4 : wr.cell? ⟨o, 4, none⟩ = some (.bool fc.1) := cell_at hat rfl
      have o5 : wr.cell? ⟨o, 5, none⟩ = some (.string fc.2) := cell_at hat rfl
      have o6 : wr.cell? ⟨o, 6, none⟩ = some (.bool fd.1) := cell_at hat rfl
      have o7 : wr.cell? ⟨o, 7, none⟩ = some (.string fd.2) := cell_at hat rfl
      have o8 : wr.cell? ⟨o, 8, none⟩ = some (.bool fe.1) := cell_at hat rfl
      have o9 : wr.cell? ⟨o, 9, none⟩ = some (.string fe.2) := cell_at hat rfl
      have o10 : wr.cell? ⟨o, 10, none⟩ = some (.bool ff.1) := cell_at hat rfl
      have o11 : wr.cell? ⟨o, 11, none⟩ = some (.string ff.2) := cell_at hat rfl
      have HFE := Hid.mk hFe
      obtain ⟨a0, a1⟩ := fa
      obtain ⟨b0, b1⟩ := fb
      obtain ⟨c0, c1⟩ := fc
      obtain ⟨d0, d1⟩ := fd
      obtain ⟨g0, g1⟩ := fe
      obtain ⟨h0, h1⟩ := ff
      clear hs hat hFe
      go_wp2
      refine bodyPost_ret (v := .tuple #[.agg #[.bool a0, .string a1, .bool b0, .string b1, .bool c0, .string c1, .bool d0, .string d1, .bool g0, .string g1, .bool h0, .string h1], .bool true]) ?_ rfl ⟨.inl ⟨F, HD.out.six, HE.out, by rw [HFE.out]; rfl⟩, ?_⟩
      · simp [results, Try.f17, go_sem, e0, e1, e2, e3, e4, e5, e6, e7, e8, e9, e10, e11]
      · rw [HWR.out]
        exact sets12 HB.out _ _ _ _ _ _ _ _ _ _ _ _
    · have hsi : (0 : Int) < (s.size : Int) := by omega
      have HNE : Hid (s.data.toList ≠ []) := Hid.mk (fun h => hs (by rw [← list_len s, h]; rfl))
      clear hs e0 e1 e2 e3 e4 e5 e6 e7 e8 e9 e10 e11 f0 f1 f2 f3 f4 f5 f6 f7 f8 f9 f10 f11
      go_wp2_with fail
      refine (taken_any wr s (by omega)).mono ?_
      rintro e w1 ⟨n, sz, rfl, hl1, hb1⟩
      have HBZ := Hid.mk (HB.out.trans (hb1.mono (by have := HX.out.lt; omega)))
      have hO := HO.out.grown hb1
      have hX := HX.out.grown hb1
      have HL1 := Hid.mk hl1
      have hszl := hl1.size_le
      have hn64 := hl1.lt
      rw [list_len] at hszl
      clear hl1 hb1
      have HO1 := Hid.mk hO
      have HX1 := Hid.mk hX
      have hxs : ∀ i, i < 12 → ∃ v, w1.cell? ⟨r, i, none⟩ = some v := fun i hi => by
        have h := hX.at_
        rw [noC] at h
        refine ⟨_, cell_at h (Array.getElem?_eq_getElem (by simpa using hi))⟩
      obtain ⟨x0', e0⟩ := hxs 0 (by decide)
      obtain ⟨x1', e1⟩ := hxs 1 (by decide)
      obtain ⟨x2', e2⟩ := hxs 2 (by decide)
      obtain ⟨x3', e3⟩ := hxs 3 (by decide)
      obtain ⟨x4', e4⟩ := hxs 4 (by decide)
      obtain ⟨x5', e5⟩ := hxs 5 (by decide)
      obtain ⟨x6', e6⟩ := hxs 6 (by decide)
      obtain ⟨x7', e7⟩ := hxs 7 (by decide)
      obtain ⟨x8', e8⟩ := hxs 8 (by decide)
      obtain ⟨x9', e9⟩ := hxs 9 (by decide)
      obtain ⟨x10', e10⟩ := hxs 10 (by decide)
      obtain ⟨x11', e11⟩ := hxs 11 (by decide)
      have f0 := hX.fz 0
      have f1 := hX.fz 1
      have f2 := hX.fz 2
      have f3 := hX.fz 3
      have f4 := hX.fz 4
      have f5 := hX.fz 5
      have f6 := hX.fz 6
      have f7 := hX.fz 7
      have f8 := hX.fz 8
      have f9 := hX.fz 9
      have f10 := hX.fz 10
      have f11 := hX.fz 11
      clear hO hX hxs
      by_cases hz : sz = 0
      · have HF := Hid.mk (HD.out.fails1 HNE.out HL1.out (.inl hz))
        subst hz
        go_wp2
        refine bodyPost_ret (v := .tuple #[.agg #[.bool false, .string ⟨#[]⟩, .bool false, .string ⟨#[]⟩, .bool false, .string ⟨#[]⟩, .bool false, .string ⟨#[]⟩, .bool false, .string ⟨#[]⟩, .bool false, .string ⟨#[]⟩], .bool false]) ?_ rfl ⟨.inr ⟨by rw [noC], HF.out⟩, ?_⟩
        · simp [results, Try.f17, go_sem, e0, e1, e2, e3, e4, e5, e6, e7, e8, e9, e10, e11]
        · rw [HWR.out]
          exact sets12 HBZ.out _ _ _ _ _ _ _ _ _ _ _ _
      · have hz1 : ((sz : Int) == 0) = false := beq_false_of_ne (by omega)
        by_cases h5 : 5 < n
        · have HF := Hid.mk (HD.out.fails1 HNE.out HL1.out (.inr (.inl (by omega))))
          have h5i : (5 : Int) < (n : Int) := by omega
          go_wp2
          refine bodyPost_ret (v := .tuple #[.agg #[.bool false, .string ⟨#[]⟩, .bool false, .string ⟨#[]⟩, .bool false, .string ⟨#[]⟩, .bool false, .string ⟨#[]⟩, .bool false, .string ⟨#[]⟩, .bool false, .string ⟨#[]⟩], .bool false]) ?_ rfl ⟨.inr ⟨by rw [noC], HF.out⟩, ?_⟩
          · simp [results, Try.f17, go_sem, e0, e1, e2, e3, e4, e5, e6, e7, e8, e9, e10, e11]
          · rw [HWR.out]
            exact sets12 HBZ.out _ _ _ _ _ _ _ _ _ _ _ _
        · have h5i : ¬ (5 : Int) < (n : Int) := by omega
          have hsl : (sz : Int) ≤ (s.size : Int) := by omega
          have d5 : decide ((5 : Int) < (n : Int)) = false := decide_eq_false h5i
          clear e0 e1 e2 e3 e4 e5 e6 e7 e8 e9 e10 e11 f0 f1 f2 f3 f4 f5 f6 f7 f8 f9 f10 f11
          go_wp2_with fail
          obtain ⟨s1, hs1⟩ : ∃ s1, s1 = s.extract sz s.size := ⟨_, rfl⟩
          rw [← hs1]
          have hs1l : s1.data.toList = s.data.toList.drop sz := by rw [hs1]; exact extract_list s sz
          have hs1s : s1.size ≤ 300 := by
            rw [← list_len s1, hs1l, List.length_drop, list_len]
            omega
          have HS1 := Hid.mk hs1l
          clear hs1 hs1l
          refine (taken_any w1 s1 (by omega)).mono ?_
          rintro e w2 ⟨n2, sz2, rfl, hl2, hb2⟩
          have HBZ2 := Hid.mk (HBZ.out.trans (hb2.mono (by have := HX1.out.lt; omega)))
          have hO := HO1.out.grown hb2
          have hX := HX1.out.grown hb2
          have hl2b := hl2
          rw [HS1.out] at hl2b
          have HL2 := Hid.mk hl2b
          have hszl2 := hl2.size_le
          have hn264 := hl2.lt
          rw [list_len] at hszl2
          clear hl2 hb2 hl2b HBZ
          have HBZ := HBZ2
          have HO2 := Hid.mk hO
          have HX2 := Hid.mk hX
          have hxs : ∀ i, i < 12 → ∃ v, w2.cell? ⟨r, i, none⟩ = some v := fun i hi => by
            have h := hX.at_
            rw [noC] at h
            refine ⟨_, cell_at h (Array.getElem?_eq_getElem (by simpa using hi))⟩
          obtain ⟨x0', e0⟩ := hxs 0 (by decide)
          obtain ⟨x1', e1⟩ := hxs 1 (by decide)
          obtain ⟨x2', e2⟩ := hxs 2 (by decide)
          obtain ⟨x3', e3⟩ := hxs 3 (by decide)
          obtain ⟨x4', e4⟩ := hxs 4 (by decide)
          obtain ⟨x5', e5⟩ := hxs 5 (by decide)
          obtain ⟨x6', e6⟩ := hxs 6 (by decide)
          obtain ⟨x7', e7⟩ := hxs 7 (by decide)
          obtain ⟨x8', e8⟩ := hxs 8 (by decide)
          obtain ⟨x9', e9⟩ := hxs 9 (by decide)
          obtain ⟨x10', e10⟩ := hxs 10 (by decide)
          obtain ⟨x11', e11⟩ := hxs 11 (by decide)
          have f0 := hX.fz 0
          have f1 := hX.fz 1
          have f2 := hX.fz 2
          have f3 := hX.fz 3
          have f4 := hX.fz 4
          have f5 := hX.fz 5
          have f6 := hX.fz 6
          have f7 := hX.fz 7
          have f8 := hX.fz 8
          have f9 := hX.fz 9
          have f10 := hX.fz 10
          have f11 := hX.fz 11
          clear hO hX hxs
          by_cases hz2 : sz2 = 0
          · have HF := Hid.mk (HD.out.fails HNE.out HL1.out (fun _ => HL2.out) (.inr (.inr (.inr (.inl hz2)))))
            subst hz2
            go_wp2
            refine bodyPost_ret (v := .tuple #[.agg #[.bool false, .string ⟨#[]⟩, .bool false, .string ⟨#[]⟩, .bool false, .string ⟨#[]⟩, .bool false, .string ⟨#[]⟩, .bool false, .string ⟨#[]⟩, .bool false, .string ⟨#[]⟩], .bool false]) ?_ rfl ⟨.inr ⟨by rw [noC], HF.out⟩, ?_⟩
            · simp [results, Try.f17, go_sem, e0, e1, e2, e3, e4, e5, e6, e7, e8, e9, e10, e11]
            · rw [HWR.out]
              exact sets12 HBZ.out _ _ _ _ _ _ _ _ _ _ _ _
          · have hz21 : ((sz2 : Int) == 0) = false := beq_false_of_ne (by omega)
            by_cases h32 : 32 < n2
            · have HF := Hid.mk (HD.out.fails HNE.out HL1.out (fun _ => HL2.out) (.inr (.inr (.inr (.inr (.inl h32))))))
              have h32i : (32 : Int) < (n2 : Int) := by omega
              go_wp2
              refine bodyPost_ret (v := .tuple #[.agg #[.bool false, .string ⟨#[]⟩, .bool false, .string ⟨#[]⟩, .bool false, .string ⟨#[]⟩, .bool false, .string ⟨#[]⟩, .bool false, .string ⟨#[]⟩, .bool false, .string ⟨#[]⟩], .bool false]) ?_ rfl ⟨.inr ⟨by rw [noC], HF.out⟩, ?_⟩
              · simp [results, Try.f17, go_sem, e0, e1, e2, e3, e4, e5, e6, e7, e8, e9, e10, e11]
              · rw [HWR.out]
                exact sets12 HBZ.out _ _ _ _ _ _ _ _ _ _ _ _
            · have h32i : ¬ (32 : Int) < (n2 : Int) := by omega
              have d32 : decide ((32 : Int) < (n2 : Int)) = false := decide_eq_false h32i
              obtain ⟨L, hL⟩ : ∃ L : Nat, L = s1.size - sz2 := ⟨_, rfl⟩
              have hL2 : (s1.size : Int) - (sz2 : Int) = (L : Int) := by omega
              have hL64 : IntKind.u64.wrap (L : Int) = (L : Int) := by rw [IntKind.wrap_u64]; omega
              have hLl : ((s.data.toList.drop sz).drop sz2).length = L := by rw [← HS1.out, List.length_drop, list_len, hL]
              by_cases hlen : L < n2
              · have HF := Hid.mk (HD.out.fails HNE.out HL1.out (fun _ => HL2.out) (.inr (.inr (.inr (.inr (.inr (by rw [hLl]; exact hlen)))))))
                have hli : (L : Int) < (n2 : Int) := by omega
                clear hLl
                go_wp2
                refine bodyPost_ret (v := .tuple #[.agg #[.bool false, .string ⟨#[]⟩, .bool false, .string ⟨#[]⟩, .bool false, .string ⟨#[]⟩, .bool false, .string ⟨#[]⟩, .bool false, .string ⟨#[]⟩, .bool false, .string ⟨#[]⟩], .bool false]) ?_ rfl ⟨.inr ⟨by rw [noC], HF.out⟩, ?_⟩
                · simp [results, Try.f17, go_sem, e0, e1, e2, e3, e4, e5, e6, e7, e8, e9, e10, e11]
                · rw [HWR.out]
                  exact sets12 HBZ.out _ _ _ _ _ _ _ _ _ _ _ _
              · have hli : ¬ (L : Int) < (n2 : Int) := by omega
                have dL : decide (s1.size - sz2 < n2) = false := decide_eq_false (by omega)
                have dL2 : decide (L < n2) = false := decide_eq_false hlen
                clear e0 e1 e2 e3 e4 e5 e6 e7 e8 e9 e10 e11 f0 f1 f2 f3 f4 f5 f6 f7 f8 f9 f10 f11
                have hn6 : n < 6 := by omega
                obtain ⟨M, hM⟩ : ∃ M, M = 6 - n := ⟨_, rfl⟩
                have hcut : ∀ z, (Instr.sliceAt 30 (.pointer (some ⟨o, 0, none⟩)) (some (.int .u64 (n : Int))) none none).run Try.prog z = .ok (.slice (some ⟨o, n * 2, none⟩) M M) z := fun z => by rw [hM]; exact run_cut o n hn6 z
                have HM := Hid.mk hM
                clear hM
                go_wp2
                go_loopw [10, 53] (fun _ idx wi => ∃ p : Nat, p ≤ M ∧ idx = .int .i64 p ∧ Below w2.heap.size w2 wi ∧ ∀ p', p' < p → F[n + p']!.1 = false) (fun _ idx _ => M - (intOf idx).toNat)
                case atStart => exact ⟨0, Nat.zero_le _, rfl, Below.refl _ _, fun p' hp' => by omega⟩
                case round =>
                  clear hcut dL dL2 d5 d32
                  obtain ⟨p, hp, rfl, hbi, hnone⟩ := hrel
                  have hO := HO2.out.grown hbi
                  have hX := HX2.out.grown hbi
                  have HBI := Hid.mk hbi
                  have HNN := Hid.mk hnone
                  by_cases hpM : p < M
                  · have hnp : n + p < 6 := by have := HM.out; omega
                    have c0 := hO.is (n + p) hnp
                    have c1 := hO.text (n + p) hnp
                    have ea : (n + p) * 2 = n * 2 + p * 2 := by omega
                    rw [ea] at c0 c1
                    have hbz := hbi.alloc hbi.size (.cells #[.bool F[n + p]!.1, .string F[n + p]!.2] 29)
                    have hXz := hX.grown ((Below.refl _ wr).alloc (Nat.le_refl _) (.cells #[.bool F[n + p]!.1, .string F[n + p]!.2] 29))
                    obtain ⟨T, hT⟩ : ∃ T, T = F[n + p]!.2 := ⟨_, rfl⟩
                    rw [← hT] at c1 hbz hXz
                    have HBZ3 := HBZ
                    by_cases hf : F[n + p]!.1 = true
                    · have HF := Hid.mk (HD.out.fails1 HNE.out HL1.out (.inr (.inr (by
                        by_cases hk : n + p < k
                        · omega
                        · have := HD.out.none_ (n + p) (by omega) hnp
                          rw [hf] at this
                          cases this))))
                      rw [hf] at c0 hbz hXz
                      have HBZ : Hid (Below r w (wr.alloc (.cells #[.bool true, .string T] 29))) := Hid.mk (HBZ3.out.trans (hbz.mono (by have := HX2.out.lt; omega)))
                      have hxs : ∀ i, i < 12 → ∃ v, (wr.alloc (.cells #[.bool true, .string T] 29)).cell? ⟨r, i, none⟩ = some v := fun i hi => by
                        have h := hXz.at_
                        rw [noC] at h
                        refine ⟨_, cell_at h (Array.getElem?_eq_getElem (by simpa using hi))⟩
                      obtain ⟨x0', e0⟩ := hxs 0 (by decide)
                      obtain ⟨x1', e1⟩ := hxs 1 (by decide)
                      obtain ⟨x2', e2⟩ := hxs 2 (by decide)
                      obtain ⟨x3', e3⟩ := hxs 3 (by decide)
                      obtain ⟨x4', e4⟩ := hxs 4 (by decide)
                      obtain ⟨x5', e5⟩ := hxs 5 (by decide)
                      obtain ⟨x6', e6⟩ := hxs 6 (by decide)
                      obtain ⟨x7', e7⟩ := hxs 7 (by decide)
                      obtain ⟨x8', e8⟩ := hxs 8 (by decide)
                      obtain ⟨x9', e9⟩ := hxs 9 (by decide)
                      obtain ⟨x10', e10⟩ := hxs 10 (by decide)
                      obtain ⟨x11', e11⟩ := hxs 11 (by decide)
                      have f0 := hXz.fz 0
                      have f1 := hXz.fz 1
                      have f2 := hXz.fz 2
                      have f3 := hXz.fz 3
                      have f4 := hXz.fz 4
                      have f5 := hXz.fz 5
                      have f6 := hXz.fz 6
                      have f7 := hXz.fz 7
                      have f8 := hXz.fz 8
                      have f9 := hXz.fz 9
                      have f10 := hXz.fz 10
                      have f11 := hXz.fz 11
                      clear hO hX hXz hbz hxs hbi hnone ea hT hf
                      go_wp2
                      refine bodyPost_ret (v := .tuple #[.agg #[.bool false, .string ⟨#[]⟩, .bool false, .string ⟨#[]⟩, .bool false, .string ⟨#[]⟩, .bool false, .string ⟨#[]⟩, .bool false, .string ⟨#[]⟩, .bool false, .string ⟨#[]⟩], .bool false]) ?_ rfl ⟨.inr ⟨by rw [noC], HF.out⟩, ?_⟩
                      · simp [results, Try.f17, go_sem, e0, e1, e2, e3, e4, e5, e6, e7, e8, e9, e10, e11]
                      · rw [HWR.out]
                        exact sets12 HBZ.out _ _ _ _ _ _ _ _ _ _ _ _
                    · have hf2 : F[n + p]!.1 = false := by simpa using hf
                      rw [hf2] at c0 hbz
                      have HBB := Hid.mk hbz
                      have HF2 := Hid.mk hf2
                      clear hO hX hXz hbz hbi hnone ea hT hf hf2
                      go_wp2
                      go_roundw
                      case rel =>
                        refine ⟨p + 1, by omega, by go_num, HBB.out, fun p' hp' => ?_⟩
                        by_cases e : p' = p
                        · rw [e]; exact HF2.out
                        · exact HNN.out p' (by omega)
                      case measure => simp [intOf]; omega
                  · have hge : (M : Int) ≤ (p : Int) := by omega
                    have hkn : k ≤ n := by
                      rcases HD.out.last with h | h
                      · omega
                      · by_cases hk : k ≤ n
                        · exact hk
                        · have h6 := HD.out.most
                          have hMM := HM.out
                          have h7 := hnone (k - 1 - n) (by omega)
                          rw [show n + (k - 1 - n) = k - 1 by omega, h] at h7
                          cases h7
                    have hM' := HD.out.more HNE.out HL1.out HL2.out hz hn6 hkn hz2 (by omega) (by rw [hLl]; omega)
                    have c0 := hO.is n hn6
                    have c1 := hO.text n hn6
                    have g0 := hO.fz (n * 2)
                    have g1 := hO.fz (n * 2 + 1)
                    have hq1 : (sz2 : Int) ≤ (sz2 : Int) + (n2 : Int) := by omega
                    have hq2 : (sz2 : Int) + (n2 : Int) ≤ (s1.size : Int) := by omega
                    obtain ⟨q0, hq0⟩ : ∃ q, q = F[n]!.1 := ⟨_, rfl⟩
                    obtain ⟨q1, hq1'⟩ : ∃ q, q = F[n]!.2 := ⟨_, rfl⟩
                    rw [← hq0] at c0
                    rw [← hq1'] at c1
                    have HO3 := Hid.mk hO
                    have HX3 := Hid.mk hX
                    have HMM := Hid.mk hM'
                    clear hO hX hM' hbi hnone hq0 hq1' hLl
                    have HTX : Hid (s1.extract sz2 (sz2 + n2) = ⟨(((s.data.toList.drop sz).drop sz2).take n2).toArray⟩) := Hid.mk (bytes_eq (by
                      rw [extract_mid, HS1.out]))
                    have HSX : Hid ((s1.extract (sz2 + n2) s1.size).data.toList = ((s.data.toList.drop sz).drop sz2).drop n2) := Hid.mk (by
                      rw [extract_list, HS1.out, List.drop_drop, List.drop_drop, List.drop_drop])
                    have HLEN : Hid ((s1.extract (sz2 + n2) s1.size).size ≤ 300 ∧ (s1.extract (sz2 + n2) s1.size).size < s.size) := Hid.mk (by
                      have h1 := congrArg List.length HSX.out
                      rw [list_len, List.length_drop, List.length_drop, List.length_drop, list_len] at h1
                      omega)
                    have HBE : Hid (Below r w wr) := Hid.mk (HBZ.out.trans (HBI.out.mono (by have := HX2.out.lt; omega)))
                    go_wp2
                    go_roundw
                    case rel =>
                      refine ⟨F.set n (true, s1.extract sz2 (sz2 + n2)), n + 1, s1.extract (sz2 + n2) s1.size, rfl, HLEN.out.1, HO3.out.set n hn6 (true, s1.extract sz2 (sz2 + n2)), ?_, ?_, ?_⟩
                      · refine ⟨?_, HX3.out.len⟩
                        rw [Below.heap_setCell _ _ _ _ hro, Below.heap_setCell _ _ _ _ hro]
                        exact HX3.out.at_
                      · rw [HSX.out, HTX.out]
                        exact HMM.out
                      · exact (HBE.out.setCell (p := ⟨o, n * 2, none⟩) (by rw [HOR.out]; exact Nat.le_succ _) _).setCell (p := ⟨o, n * 2 + 1, none⟩) (by rw [HOR.out]; exact Nat.le_succ _) _
                    case measure => exact HLEN.out.2

end Go.Proofs.Ytabjjjbopbjbeaa.Tom
