/-
  Bytes of a tome: the files' bytes, by numbers; of a nil one none.
-/
import Derived.Test.YtdngehfebmaegaaTAll
import Derived.Test.YtdngehfebmaegaaYRefs
namespace Go.Proofs.Ytdngehfebmaegaa.Tom
open Go.RowKit Go.Shelf Cel Rng
open Sty (Pen Wrote nat_any text_any bytes_any natB textB textsB wide wide_len)
attribute [local go_sem] Oper.semAt_some

/-- The bytes of some files, by their numbers. -/
def bP (F : Nat → Bool × ByteArray) (l : List Nat) : List UInt8 := (l.map fun j => fB j (F j)).flatten

theorem bP_snoc (F : Nat → Bool × ByteArray) (l : List Nat) (j : Nat) : bP F (l ++ [j]) = bP F l ++ fB j (F j) := by simp [bP]
theorem bP_there (F : Nat → Bool × ByteArray) (l : List Nat) : bP F (l.filter fun j => (F j).1) = bP F l := by
  induction l with
  | nil => rfl
  | cons j r ih =>
    cases h : (F j).1 with
    | true =>
      rw [List.filter_cons_of_pos (p := fun j => (F j).1) h]
      exact congrArg (fB j (F j) ++ ·) ih
    | false =>
      rw [List.filter_cons_of_neg (p := fun j => (F j).1) (by simp [h]), ih]
      show bP F r = fB j (F j) ++ bP F r
      rw [fB_no j h]; rfl
theorem bP_six (F : Nat → Bool × ByteArray) (A : List (Bool × ByteArray)) (hl : A.length = 6) (h : ∀ j, j < 6 → A[j]! = F j) : bP F (List.range 6) = fromB 0 A := by
  match A, hl with
  | [a, b, c, d, e, f], _ =>
    have h0 := h 0 (by decide)
    have h1 := h 1 (by decide)
    have h2 := h 2 (by decide)
    have h3 := h 3 (by decide)
    have h4 := h 4 (by decide)
    have h5 := h 5 (by decide)
    simp at h0 h1 h2 h3 h4 h5
    subst h0 h1 h2 h3 h4 h5
    simp [bP, List.range_succ, fromB]
theorem fB_length (j : Nat) (f : Bool × ByteArray) (hj : j < 6) (hf : CanF f) : (fB j f).length ≤ 60 := by
  have h1 : (wide j).length ≤ 10 := wide_len (by omega)
  have h2 := canF_le hf
  have h3 : (wide f.2.size).length ≤ 10 := wide_len (by omega)
  unfold fB
  split
  · simp only [List.length_append, textB, list_len]
    omega
  · simp
theorem bP_length (F : Nat → Bool × ByteArray) (hF : ∀ j, j < 6 → CanF (F j)) (l : List Nat) (hl : ∀ j, j ∈ l → j < 6) : (bP F l).length ≤ l.length * 60 := by
  induction l with
  | nil => simp [bP]
  | cons j r ih =>
    show (fB j (F j) ++ bP F r).length ≤ _
    have h1 := fB_length j (F j) (hl j (by simp)) (hF j (hl j (by simp)))
    have h2 := ih (fun k hk => hl k (by simp [hk]))
    simp only [List.length_append, List.length_cons]
    omega

section
variable {X Y : World} {b : Nat} {v v' : Value} {bs : List UInt8}

theorem pen_row (h : Pen X b v bs) {k : Nat} (hk : v.ownBlock = some k) : ∃ cs, X.heap[k]? = some (.cells cs 5 (0, 0)) := by
  rcases h.owns.2 with ⟨e, _⟩ | ⟨g, cap, cur, e, _, hg, _⟩
  · rw [e] at hk; cases hk
  · rw [e] at hk
    cases hk
    exact ⟨_, hg⟩
theorem pen_kt (h : Pen X b v bs) (k : Wrote b v X v' Y) : KT X Y := fun i cs ty m ht hi => by
  refine (k.block i (Array.getElem?_eq_some_iff.1 hi).1 (fun e => ?_) (fun e => ?_)).trans hi
  · subst e
    have := h.at_
    rw [hi] at this
    cases this
    exact absurd ht (by decide)
  · obtain ⟨cs', hr⟩ := pen_row h e
    rw [hi] at hr
    cases hr
    exact absurd ht (by decide)
theorem pen_keeps (B : Nat) (h : Pen X b v bs) (k : Wrote b v X v' Y) : KeepsFrom B X Y := ⟨k.size, fun i o _ hi ho => by
  refine (k.block i (Array.getElem?_eq_some_iff.1 hi).1 (fun e => ?_) (fun e => ?_)).trans hi
  · subst e
    have := h.at_
    rw [hi] at this
    cases this
    cases ho
  · obtain ⟨cs', hr⟩ := pen_row h e
    rw [hi] at hr
    cases hr
    cases ho⟩
theorem pen_own (B : Nat) {β : Type} (bsOf : β → List UInt8) : OwnFrom B (fun (s : β) W => ∃ v, Pen W b v (bsOf s) ∧ ∀ k, v.ownBlock = some k → b ≤ k) := fun s X Y row hs hg hr => by
  obtain ⟨v, hp, ho⟩ := hs
  have same : ∀ (k : Nat) (cs : Array Value) (ty : TypeId) (m : Nat × Nat), X.heap[k]? = some (.cells cs ty m) → Y.heap[k]? = X.heap[k]? := fun k cs ty m hk =>
    hg.block k (Array.getElem?_eq_some_iff.1 hk).1 (fun e => by
      obtain ⟨_, o, ho, hc⟩ := hr k e.symm
      rw [hk] at ho
      cases ho
      cases hc)
  exact ⟨v, hp.carry (same _ _ _ _ hp.at_) (fun k hk => by obtain ⟨cs, hr⟩ := pen_row hp hk; exact same _ _ _ _ hr), ho⟩

end

theorem natB_nat (j : Nat) : natB (j : Int) = wide j := by
  unfold natB
  rw [if_neg (by omega), Int.toNat_natCast]
theorem textsB_one (s : ByteArray) : textsB [s] = textB s := by simp [textsB]

set_option maxHeartbeats 4000000 in
set_option maxRecDepth 100000 in
theorem bytes_yes {w : World} {t b g : Nat} {R : List ((Bool × ByteArray) × Int)} (hT : TomeAt w t b g R) :
    Calls Try.prog 9 #[.pointer (some ⟨t, 0, none⟩)] w fun e w' => e = .returned (.string ⟨(fromB 0 (filesOf R)).toArray⟩) ∧ Below w.heap.size w w' := by
  obtain ⟨F, hF⟩ : ∃ F : Nat → Bool × ByteArray, F = fun j => (filesOf R)[j]! := ⟨_, rfl⟩
  have hF1 : ∀ j, j < 6 → R[j]!.1 = F j := fun j hj => by rw [hF]; exact (files_get R j (by rw [hT.len]; exact hj)).symm
  have hF2 : ∀ j, j < 6 → CanF (F j) := fun j hj => by rw [hF]; exact hT.six.at_ j hj
  have HF3 : Hid (bP F (List.range 6) = fromB 0 (filesOf R)) := Hid.mk (bP_six F (filesOf R) hT.six.len (fun j _ => by rw [hF]))
  clear hF
  obtain ⟨W1, hW1⟩ : ∃ W1, W1 = w.alloc (.cells #[.slice none 0 0] 65) := ⟨_, rfl⟩
  have hp1 : Pen W1 w.heap.size (.slice none 0 0) [] := by rw [hW1]; exact Pen.new w
  have hz1 : W1.heap.size = w.heap.size + 1 := by rw [hW1]; simp
  have hb1 : Below w.heap.size w W1 := by rw [hW1]; exact (Below.refl _ w).alloc (Nat.le_refl _) _
  have hT1 := hT.grown hb1
  clear hT
  refine (callsIn_wide (n := 12)).1 ?_
  refine callsIn_of_wp_marks Try.func9 rfl trivial ?_ rfl
  simp only [Try.ntmps9, List.size_toArray, List.length_cons, List.length_nil, Nat.reduceAdd, Nat.reduceSub, Array.replicate_succ, Array.replicate_zero, List.push_toArray, List.append_toArray, List.nil_append, List.cons_append]
  gi_wp2_with fail
  rw [← hW1]
  clear hW1
  refine ⟨trivial, (tall_in _ _ _).mono ?_⟩
  rintro e w1 ⟨rfl, hw1⟩
  rw [hw1]
  clear hw1 w1
  gi_wp2
  obtain ⟨A, hA⟩ : ∃ A, A = w.heap.size := ⟨_, rfl⟩
  obtain ⟨C, hC⟩ : ∃ C, C = W1.heap.size := ⟨_, rfl⟩
  obtain ⟨W2, hW2⟩ : ∃ W2, W2 = W1.alloc (.cells #[.pointer (some ⟨t, 0, none⟩)] 27) := ⟨_, rfl⟩
  have hc2 : W2.heap[C]? = some (.cells #[.pointer (some ⟨t, 0, none⟩)] 27 (0, 0)) := by rw [hW2, hC]; exact heap_new _ _
  have hb2 : Below A w W2 := by rw [hW2, hA]; exact hb1.alloc hb1.size _
  have hp2 : Pen W2 A (.slice none 0 0) [] := by rw [hW2, hA]; exact hp1.alloc _
  have hT2 : TomeAt W2 t b g R := by rw [hW2]; exact hT1.grown ((Below.refl _ W1).alloc (Nat.le_refl _) _)
  have hz2 : W2.heap.size = A + 2 := by rw [hW2, hA]; simp; omega
  have hC2 : A + 1 = C := by rw [hC, hz1, hA]
  rw [← hA, hC2, ← hW2]
  have HA := Hid.mk hA
  have HOB : Hid (OwnFrom W2.heap.size (fun (_ : List (Nx F)) X => Below A w X)) := Hid.mk (ownFrom_below (by omega) (by omega))
  clear hW2 hC hp1 hz1 hb1 hT1 hA hC2
  refine range_over (gf := 50) (lb := #[.pointer (some ⟨C, 0, none⟩)]) rfl (enters_of Try.func50 (by kernel_rfl) rfl)
    (tall_gives 11 (by omega) C t b g F R W2 hc2 hT2 hF1) (Below.refl _ _) (fun _ _ _ h k => h.trans k) (fun _ _ _ r' h => KT.put (.loop r') h rfl) (fun _ => rfl)
    (fun pre X => (∃ v, Pen X A v (bP F (pre.map (·.1))) ∧ ∀ k, v.ownBlock = some k → A ≤ k) ∧ Below A w X)
    (OwnFrom.and (pen_own _ (fun pre : List (Nx F) => bP F (pre.map (·.1)))) HOB.out) ⟨⟨_, hp2, fun k hk => by cases hk⟩, hb2⟩ ?_ ?_
  · rintro l pre x X r hl hr ⟨⟨v, hp, ho⟩, hb⟩ hgood
    have hlen : pre.length < 6 := by
      have h1 := congrArg List.length hgood
      have h2 := List.length_filter_le (fun j => (F j).1) (List.range x.1)
      rw [List.length_map] at h1
      rw [List.length_range] at h2
      have := x.2.1
      omega
    clear hgood
    have HL := Hid.mk (bP_length F hF2 (pre.map (·.1)) (fun j hj => by
      obtain ⟨y, _, e⟩ := List.mem_map.1 hj
      rw [← e]
      exact y.2.1))
    clear hc2 hb2 hp2 hT2 hz2 hF1
    gi_wp2
    refine ⟨(KeepsOthers.alloc _ _).from _, KT.alloc _ _, fun r' => ?_⟩
    have hlX : l < X.heap.size := (Array.getElem?_eq_some_iff.1 hr).1
    have hr2 : (X.alloc (.cells #[.bool (F x.1).1, .string (F x.1).2] 23)).heap[l]? = some (.loop r) := (Below.heap_alloc _ _ _ hlX).trans hr
    obtain ⟨Z, hZ⟩ : ∃ Z, Z = (X.alloc (.cells #[.bool (F x.1).1, .string (F x.1).2] 23)).putObj l (.loop r') := ⟨_, rfl⟩
    have hpZ : ∃ v, Pen Z A v (bP F (pre.map (·.1))) ∧ ∀ k, v.ownBlock = some k → A ≤ k := by
      rw [hZ]
      exact (pen_own W2.heap.size (fun pre : List (Nx F) => bP F (pre.map (·.1)))).putObj (s := pre) (.loop r') ⟨v, hp.alloc _, ho⟩ hl hr2 rfl
    have hbZ : Below A w Z := by
      rw [hZ]
      exact HOB.out.putObj (s := []) (.loop r') (hb.alloc (Nat.le_trans (by rw [HA.out]; exact Nat.le_refl _) hb.size) _) hl hr2 rfl
    have hfZ : FBox Z X.heap.size (F x.1) := by
      rw [hZ]
      exact (World.putObj_heap_other (Nat.ne_of_gt hlX)).trans (heap_new _ _)
    obtain ⟨B, hB⟩ : ∃ B, B = X.heap.size := ⟨_, rfl⟩
    rw [← hZ, ← hB]
    rw [← hB] at hfZ
    obtain ⟨v, hpZ, hoZ⟩ := hpZ
    have hxt : (F x.1).1 = true := x.2.2
    have hcf := hF2 x.1 x.2.1
    have HSN := Hid.mk (bP_snoc F (pre.map (·.1)) x.1)
    have HFB := Hid.mk (fB_yes x.1 hxt)
    have hlen2 : (bP F (pre.map (·.1))).length ≤ 360 := by
      have := HL.out
      rw [List.length_map] at this
      omega
    obtain ⟨bs, hbs⟩ : ∃ bs, bs = bP F (pre.map (·.1)) := ⟨_, rfl⟩
    rw [← hbs] at hpZ HSN hlen2
    obtain ⟨j, hj⟩ : ∃ j : Nat, j = x.1 := ⟨_, rfl⟩
    have hj6 : j < 6 := by rw [hj]; exact x.2.1
    have HMAP : Hid (bP F ((pre ++ [x]).map (·.1)) = bs ++ (wide j ++ textB (F x.1).2)) := Hid.mk (by
      rw [List.map_append, List.map_cons, List.map_nil, HSN.out, HFB.out, hj])
    obtain ⟨s, hs⟩ : ∃ s, s = (F x.1).2 := ⟨_, rfl⟩
    have hs32 : s.size ≤ 32 := by rw [hs]; exact canF_le hcf
    rw [hxt, ← hs, ← hj]
    unfold FBox at hfZ
    rw [hxt, ← hs] at hfZ
    rw [← hs] at HMAP
    have hBne : B ≠ A := fun e => by
      have h1 := hpZ.at_
      rw [← e, hfZ] at h1
      cases h1
    have hBow : v.ownBlock ≠ some B := fun e => by
      obtain ⟨cs, h1⟩ := pen_row hpZ e
      rw [hfZ] at h1
      cases h1
    have hAZ : A < Z.heap.size := hpZ.lt
    have HNB : Hid (natB (j : Int) = wide j) := Hid.mk (natB_nat j)
    have HP := Hid.mk hpZ
    have HO := Hid.mk hoZ
    have HBZ := Hid.mk hbZ
    have HF := Hid.mk hfZ
    have hw10 : (wide j).length ≤ 10 := wide_len (by omega)
    have hw32 : (textB s).length ≤ 60 := by
      have h3 : (wide s.size).length ≤ 10 := wide_len (by omega)
      simp only [textB, List.length_append, list_len]
      omega
    have HX := Hid.mk hlX
    clear hp ho hb HL hZ hB hr hr2 hxt hcf HSN HFB hbs hj hs hpZ hoZ hbZ hfZ hlX hF2
    gi_wp2_with fail
    refine ⟨trivial, (CallsIn.inRound l (callsIn_wide.2 (nat_any _ A Z.heap.size v bs (j : Int) (by omega) (HP.out.alloc _) (by omega) (cell_at (heap_new _ _) rfl)))).mono ?_⟩
    rintro e Y1 ⟨rfl, v1, hp1, hw1⟩
    have hw1' := hw1.behind_alloc
    rw [HNB.out] at hp1
    have hf1 : Y1.heap[B]? = some (.cells #[.bool true, .string s] 23 (0, 0)) := (hw1'.block B (Array.getElem?_eq_some_iff.1 HF.out).1 hBne hBow).trans HF.out
    have c1 : Y1.cell? ⟨B, 1, none⟩ = some (.string s) := cell_at hf1 rfl
    have HP1 := Hid.mk hp1
    have HW1 := Hid.mk hw1'
    clear hp1 hw1 hw1' hf1
    gi_wp2_with fail
    refine ⟨trivial, (CallsIn.inRound l (callsIn_wide.2 (text_any _ A v1 (bs ++ wide j) Y1.heap.size 0 1 1 [s] rfl (HP1.out.alloc _) (by rw [textsB_one, List.length_append]; omega)
      (fun i hi => by
        have : i = 0 := by simpa using hi
        subst this
        exact cell_at (heap_new _ _) rfl) (by simp) (Nat.ne_of_gt HP1.out.lt) (fun e => by have := HP1.out.own_lt _ e; omega) (by omega)))).mono ?_⟩
    rintro e Y2 ⟨rfl, v2, hp2, hw2⟩
    rw [textsB_one, List.append_assoc] at hp2
    have hw2' := HW1.out.trans hw2.behind_alloc
    have hk := pen_keeps W2.heap.size HP.out hw2'
    have ht := pen_kt HP.out hw2'
    have hb3 := HBZ.out.trans ((hw2'.below (B := A) (Nat.le_of_lt HP.out.lt) (Nat.le_refl _) HO.out).mono (Nat.le_refl _))
    have ho2 := hw2'.own_from (Nat.le_of_lt HP.out.lt) HO.out
    clear hw2 hw2'
    gi_wp2
    exact ⟨hk, ht, ⟨v2, by rw [HMAP.out]; exact hp2, ho2⟩, hb3⟩
  · rintro D ys X hD hys ⟨⟨v, hp, ho⟩, hb⟩ hK
    rw [hys, bP_there, HF3.out] at hp
    clear hc2 hb2 hp2 hT2 hz2 hF1
    have HD : Hid (Below A w (X.putObj D (.deferred none))) := Hid.mk (by
      exact HOB.out.putObj (s := []) (.deferred none) hb hD hK rfl)
    obtain ⟨bs, hbs⟩ : ∃ bs, bs = fromB 0 (filesOf R) := ⟨_, rfl⟩
    rw [← hbs] at hp
    have HBS := Hid.mk hbs
    clear hbs
    gi_wp2_with fail
    refine ⟨trivial, (callsIn_wide.2 (bytes_any X A v bs hp)).mono ?_⟩
    rintro e w1 ⟨rfl, hw1⟩
    rw [hw1]
    clear hw1 w1
    gi_wp2
    refine ⟨by simp, .inl ⟨_, _, rfl, run_takeDeferred hK, ?_⟩⟩
    exact ⟨_, results_tmp rfl _ _ _, by rw [← HBS.out]; rfl, by rw [← HA.out]; exact HD.out⟩

set_option maxHeartbeats 4000000 in
set_option maxRecDepth 100000 in
theorem bytes_nil (w : World) : Calls Try.prog 9 #[.pointer none] w fun e w' => e = .returned (.string ⟨#[]⟩) ∧ Below w.heap.size w w' := by
  obtain ⟨W1, hW1⟩ : ∃ W1, W1 = w.alloc (.cells #[.slice none 0 0] 65) := ⟨_, rfl⟩
  have hp1 : Pen W1 w.heap.size (.slice none 0 0) [] := by rw [hW1]; exact Pen.new w
  have hz1 : W1.heap.size = w.heap.size + 1 := by rw [hW1]; simp
  have hb1 : Below w.heap.size w W1 := by rw [hW1]; exact (Below.refl _ w).alloc (Nat.le_refl _) _
  refine (callsIn_wide (n := 12)).1 ?_
  refine callsIn_of_wp_marks Try.func9 rfl trivial ?_ rfl
  simp only [Try.ntmps9, List.size_toArray, List.length_cons, List.length_nil, Nat.reduceAdd, Nat.reduceSub, Array.replicate_succ, Array.replicate_zero, List.push_toArray, List.append_toArray, List.nil_append, List.cons_append]
  gi_wp2_with fail
  rw [← hW1]
  clear hW1
  refine ⟨trivial, (tall_in _ _ _).mono ?_⟩
  rintro e w1 ⟨rfl, hw1⟩
  rw [hw1]
  clear hw1 w1
  gi_wp2
  obtain ⟨A, hA⟩ : ∃ A, A = w.heap.size := ⟨_, rfl⟩
  obtain ⟨C, hC⟩ : ∃ C, C = W1.heap.size := ⟨_, rfl⟩
  obtain ⟨W2, hW2⟩ : ∃ W2, W2 = W1.alloc (.cells #[.pointer none] 27) := ⟨_, rfl⟩
  have hc2 : W2.heap[C]? = some (.cells #[.pointer none] 27 (0, 0)) := by rw [hW2, hC]; exact heap_new _ _
  have hb2 : Below A w W2 := by rw [hW2, hA]; exact hb1.alloc hb1.size _
  have hp2 : Pen W2 A (.slice none 0 0) [] := by rw [hW2, hA]; exact hp1.alloc _
  have hz2 : W2.heap.size = A + 2 := by rw [hW2, hA]; simp; omega
  have hC2 : A + 1 = C := by rw [hC, hz1, hA]
  rw [← hA, hC2, ← hW2]
  have HA := Hid.mk hA
  have HOB : Hid (OwnFrom W2.heap.size (fun (_ : List (Cel.F.Ix 0)) X => Below A w X)) := Hid.mk (ownFrom_below (by omega) (by omega))
  clear hW2 hC hp1 hz1 hb1 hA hC2
  refine range_over (gf := 50) (lb := #[.pointer (some ⟨C, 0, none⟩)]) rfl (enters_of Try.func50 (by kernel_rfl) rfl)
    (tall_nil 11 (by omega) C W2 hc2) (Below.refl _ _) (fun _ _ _ h k => h.trans k) (fun _ _ _ r' h => KT.put (.loop r') h rfl) (fun _ => rfl)
    (fun pre X => (∃ v, Pen X A v [] ∧ ∀ k, v.ownBlock = some k → A ≤ k) ∧ Below A w X)
    (OwnFrom.and (pen_own _ (fun _ : List (Cel.F.Ix 0) => [])) HOB.out) ⟨⟨_, hp2, fun k hk => by cases hk⟩, hb2⟩ ?_ ?_
  · rintro l pre x X r _ _ _ _
    exact absurd x.2 (by omega)
  · rintro D ys X hD hys ⟨⟨v, hp, ho⟩, hb⟩ hK
    clear hc2 hb2 hp2 hz2
    have HD : Hid (Below A w (X.putObj D (.deferred none))) := Hid.mk (by
      exact HOB.out.putObj (s := []) (.deferred none) hb hD hK rfl)
    gi_wp2_with fail
    refine ⟨trivial, (callsIn_wide.2 (bytes_any X A v [] hp)).mono ?_⟩
    rintro e w1 ⟨rfl, hw1⟩
    rw [hw1]
    clear hw1 w1
    gi_wp2
    refine ⟨by simp, .inl ⟨_, _, rfl, run_takeDeferred hK, ?_⟩⟩
    exact ⟨_, results_tmp rfl _ _ _, rfl, by rw [← HA.out]; exact HD.out⟩

end Go.Proofs.Ytdngehfebmaegaa.Tom
