/-
  WalDoes: for every area and every script of calls the law returns true: each answer, and all that is told of a log, are the document's; a nil one. No condition.
-/
import Derived.Test.YtejmameebhbcbaaLDoes
namespace Go.Proofs.Ytejmameebhbcbaa.walDoes
open Go.ChangeShapes Go.WideShapes Go.ChangeAt Go.RowKit Go.Deep

/-- All that is told of both logs, in every world in which they lie as they lay. -/
structure Told (o : Bool) (w : World) (bb b lb m rl : Nat) (tn : Bool) (T S : ByteArray) (L LS : List ByteArray) (SF : Nat) : Prop where
  x1 : ∀ z, Below w.heap.size w z → z.cell? ⟨bb, 1, none⟩ = some (.pointer (some ⟨lb, 0, none⟩))
  x2 : ∀ z, Below w.heap.size w z → z.cell? ⟨bb, 2, none⟩ = some (.pointer (some ⟨rl, 0, none⟩))
  g0 : ∀ z, Below w.heap.size w z → z.cell? ⟨rl, 0, none⟩ = some (.pointer (some ⟨m, 0, none⟩))
  g2 : ∀ z, Below w.heap.size w z → z.cell? ⟨rl, 2, none⟩ = some (.bool tn)
  m1 : ∀ z, Below w.heap.size w z → z.cell? ⟨m, 1, none⟩ = some (.int .i64 SF)
  sT : T.size ≤ 16384
  sS : S.size ≤ 16384
  aT : AllOf T.data.toList L
  aS : AllOf S.data.toList LS
  text : ∀ z, Below w.heap.size w z → Calls Try.prog 22 #[.pointer (some ⟨rl, 0, none⟩)] z fun e z' => e = .returned (.string T) ∧ Below w.heap.size w z'
  part : ∀ z, Below w.heap.size w z → Calls Try.prog 24 #[.pointer (some ⟨m, 0, none⟩), .int .i64 (ar o), .int .i64 SF] z fun e z' => e = .returned (.string S) ∧ Below w.heap.size w z'
  loads : ∀ z, Below w.heap.size w z → Calls Try.prog 15 #[.pointer (some ⟨lb, 0, none⟩)] z fun e z' => (∃ a cap, e = .returned (.slice a L.length cap) ∧ IsTexts z' a L.length cap L) ∧ Below w.heap.size w z' ∧ Below z.heap.size z z'
  size : ∀ z, Below w.heap.size w z → Calls Try.prog 17 #[.pointer (some ⟨lb, 0, none⟩)] z fun e z' => e = .returned (.int .i64 (wholeN L : Nat)) ∧ Below w.heap.size w z'
  whole : ∀ z, Below w.heap.size w z → Calls Try.prog 26 #[.pointer (some ⟨rl, 0, none⟩)] z fun e z' => e = .returned (.int .i64 (wholeN L : Nat)) ∧ Below w.heap.size w z'
  torn : ∀ z, Below w.heap.size w z → Calls Try.prog 19 #[.pointer (some ⟨lb, 0, none⟩)] z fun e z' => e = .returned (.bool tn) ∧ Below w.heap.size w z'
  lasting : ∀ z, Below w.heap.size w z → Calls Try.prog 16 #[.pointer (some ⟨lb, 0, none⟩)] z fun e z' => e = .returned (.int .i64 (LS.length : Nat)) ∧ Below w.heap.size w z'
  area : ∀ z, Below w.heap.size w z → Calls Try.prog 18 #[.pointer (some ⟨lb, 0, none⟩)] z fun e z' => e = .returned (.int .i64 (ar o)) ∧ Below w.heap.size w z'

theorem told {w wr : World} {bb b lb m rl : Nat} {v vm : Value} {o tn : Bool} {dn ws : List Ch} (t : Two w wr bb b lb m rl v vm o tn dn ws tn dn ws) (hn : (dn ++ ws).length ≤ 1000000) :
    ∃ (T S : ByteArray) (L LS : List ByteArray) (SF : Nat), Told o wr bb b lb m rl tn T S L LS SF := by
  have hf := t.l.d.has.fits
  obtain ⟨L, hL⟩ := all_exists _ (txt o (dn ++ ws)).data.toList (Nat.le_refl _)
  obtain ⟨LS, hLS⟩ := all_exists _ (txt o dn).data.toList (Nat.le_refl _)
  have hs := hf.take dn.length
  rw [List.take_left' rfl] at hs
  refine ⟨txt o (dn ++ ws), txt o dn, L, LS, dn.length, ?_⟩
  have G : ∀ z, Below wr.heap.size wr z → Two w z bb b lb m rl v vm o tn dn ws tn dn ws := fun z hz => t.grow hz
  refine ⟨fun z hz => (G z hz).x1, fun z hz => (G z hz).x2, fun z hz => (G z hz).g.c0, fun z hz => (G z hz).g.c2, fun z hz => (G z hz).r.c1, hf.all o, hs.all o, hL, hLS, ?_, ?_, ?_, ?_, ?_, ?_, ?_, ?_⟩
  · exact fun z hz => (refText_any (G z hz).g (G z hz).r hf hn).mono fun e z' ⟨he, hb⟩ => ⟨he, hz.trans (hb.mono hz.size)⟩
  · intro z hz
    have := text_any o dn.length (G z hz).r hf (by simp) hn
    rw [List.take_left' rfl] at this
    exact this.mono fun e z' ⟨he, hb⟩ => ⟨he, by rw [hb]; exact hz⟩
  · intro z hz
    refine (loads_any (G z hz).l.l (G z hz).l.d.has L hL).mono ?_
    rintro e z' ⟨gv, rfl, hrow, hb⟩
    obtain ⟨a, cap, rfl, ht⟩ := texts_of_row hrow
    exact ⟨⟨a, cap, rfl, ht⟩, hz.trans (hb.mono hz.size), hb⟩
  · exact fun z hz => (size_any (G z hz).l.l (G z hz).l.d.has L hL).mono fun e z' ⟨he, hb⟩ => ⟨he, hz.trans (hb.mono hz.size)⟩
  · exact fun z hz => (refWhole_any (G z hz).g (G z hz).r hf hn L hL).mono fun e z' ⟨he, hb⟩ => ⟨he, hz.trans (hb.mono hz.size)⟩
  · exact fun z hz => (torn_any (G z hz).l.l).mono fun e z' ⟨he, hb⟩ => ⟨he, by rw [hb]; exact hz⟩
  · exact fun z hz => (lasting_any (G z hz).l.l (G z hz).l.d.has LS hLS).mono fun e z' ⟨he, hb⟩ => ⟨he, hz.trans (hb.mono hz.size)⟩
  · exact fun z hz => (area_any (G z hz).l.l).mono fun e z' ⟨he, hb⟩ => ⟨he, by rw [hb]; exact hz⟩

set_option maxRecDepth 100000 in
set_option maxHeartbeats 3200000 in
theorem walk_no (x : Int) (h0 : x ≠ 0) (h1 : x ≠ 1) (a : Option Addr) (len cap : Nat) (cs : List Cl) (w : World) (ha : IsCls w a len cap cs) :
    Calls Try.prog 3 #[.int .i64 x, .slice a len cap] w fun e w' => e = .returned (.bool true) ∧ Below w.heap.size w w' := by
  have z0 : (x == 0) = false := by simp [h0]
  have z1 : (x == 1) = false := by simp [h1]
  have H0 := Hid.mk h0
  have H1 := Hid.mk h1
  clear h0 h1
  go_enter Try.func3, Try.ntmps3
  go_wp2_with fail
  refine (alive_any w).mono ?_
  rintro e w1 ⟨rfl, hb1⟩
  go_wp2_with fail
  refine (great_any (ha.carry hb1)).mono ?_
  rintro e w2 ⟨hb2, rfl | ⟨rfl, hl50, hsum⟩⟩
  · go_wp2
    go_ret
    exact ⟨rfl, hb1.trans (hb2.mono hb1.size)⟩
  have hb := hb1.trans (hb2.mono hb1.size)
  clear hb1 hb2
  go_wp2_with fail
  refine (walOpen_nil x w2).mono ?_
  rintro e w3 ⟨rfl, hw3⟩
  rw [hw3]
  clear hw3 w3
  go_wp2_with fail
  refine (new_any w2).mono ?_
  rintro e w4 ⟨rfl, hw4⟩
  have hb4 : Below w.heap.size w w4 := by rw [hw4]; exact hb.alloc hb.size _
  clear hw4
  go_wp2_with fail
  refine (walOpen_no x H0.out H1.out _ _).mono ?_
  rintro e w5 ⟨rfl, hw5⟩
  rw [hw5]
  clear hw5 w5
  go_wp2_with fail
  refine (force_nil _).mono ?_
  rintro e w5 ⟨rfl, hw5⟩
  rw [hw5]
  clear hw5 w5
  go_wp2_with fail
  refine (clear_nil _).mono ?_
  rintro e w5 ⟨rfl, hw5⟩
  rw [hw5]
  clear hw5 w5
  go_wp2_with fail
  refine (logAppend_nil _ _).mono ?_
  rintro e w5 ⟨rfl, hw5⟩
  rw [hw5]
  clear hw5 w5
  go_wp2_with fail
  refine (loads_nil _).mono ?_
  rintro e w5 ⟨⟨ga, gc, rfl⟩, hb5⟩
  have hb6 := hb4.trans (hb5.mono hb4.size)
  clear hb4 hb5
  go_wp2_with fail
  refine (lasting_nil _).mono ?_
  rintro e w6 ⟨rfl, hw6⟩
  rw [hw6]
  clear hw6 w6
  go_wp2_with fail
  refine (size_nil _).mono ?_
  rintro e w7 ⟨rfl, hb7⟩
  have hb8 := hb6.trans (hb7.mono hb6.size)
  clear hb6 hb7
  go_wp2_with fail
  refine (area_nil _).mono ?_
  rintro e w8 ⟨rfl, hw8⟩
  rw [hw8]
  clear hw8 w8
  go_wp2_with fail
  refine (torn_nil _).mono ?_
  rintro e w8 ⟨rfl, hw8⟩
  rw [hw8]
  clear hw8 w8
  go_wp2
  go_ret
  exact ⟨rfl, hb8⟩

set_option maxRecDepth 100000 in
set_option maxHeartbeats 12800000 in
theorem walk_false (a : Option Addr) (len cap : Nat) (cs : List Cl) (w : World) (ha : IsCls w a len cap cs) :
    Calls Try.prog 3 #[.int .i64 0, .slice a len cap] w fun e w' => e = .returned (.bool true) ∧ Below w.heap.size w w' := by
  have hT : AllOf (txt false ([] ++ [])).data.toList [] := by
    show AllOf (⟨#[]⟩ : ByteArray).data.toList []
    exact none_empty
  go_enter Try.func3, Try.ntmps3
  go_wp2_with fail
  refine (alive_any w).mono ?_
  rintro e w1 ⟨rfl, hb1⟩
  go_wp2_with fail
  refine (great_any (ha.carry hb1)).mono ?_
  rintro e w2 ⟨hb2, rfl | ⟨rfl, hl50, hsum⟩⟩
  · go_wp2
    go_ret
    exact ⟨rfl, hb1.trans (hb2.mono hb1.size)⟩
  have hb := hb1.trans (hb2.mono hb1.size)
  clear hb1 hb2
  go_wp2_with fail
  refine (walOpen_nil 0 w2).mono ?_
  rintro e w3 ⟨rfl, hw3⟩
  rw [hw3]
  clear hw3 w3
  go_wp2_with fail
  refine (new_any w2).mono ?_
  rintro e w4 ⟨rfl, hw4⟩
  have h0 := Mine.new hb hb.size
  rw [← hw4] at h0
  clear hw4
  go_wp2_with fail
  refine (walOpen_yes false h0.has [] hT).mono ?_
  rintro e w5 ⟨rfl, -, hb5⟩
  have hb4 := h0.below.trans (hb5.mono h0.lo)
  clear hb5 h0 hT hb
  go_wp2_with fail
  refine (force_nil _).mono ?_
  rintro e w5 ⟨rfl, hw5⟩
  rw [hw5]
  clear hw5 w5
  go_wp2_with fail
  refine (clear_nil _).mono ?_
  rintro e w5 ⟨rfl, hw5⟩
  rw [hw5]
  clear hw5 w5
  go_wp2_with fail
  refine (logAppend_nil _ _).mono ?_
  rintro e w5 ⟨rfl, hw5⟩
  rw [hw5]
  clear hw5 w5
  go_wp2_with fail
  refine (loads_nil _).mono ?_
  rintro e w5 ⟨⟨ga, gc, rfl⟩, hb5⟩
  have hb6 := hb4.trans (hb5.mono hb4.size)
  clear hb4 hb5
  go_wp2_with fail
  refine (lasting_nil _).mono ?_
  rintro e w6 ⟨rfl, hw6⟩
  rw [hw6]
  clear hw6 w6
  go_wp2_with fail
  refine (size_nil _).mono ?_
  rintro e w7 ⟨rfl, hb7⟩
  have hb8 := hb6.trans (hb7.mono hb6.size)
  clear hb6 hb7
  go_wp2_with fail
  refine (area_nil _).mono ?_
  rintro e w8 ⟨rfl, hw8⟩
  rw [hw8]
  clear hw8 w8
  go_wp2_with fail
  refine (torn_nil _).mono ?_
  rintro e w8 ⟨rfl, hw8⟩
  rw [hw8]
  clear hw8 w8
  go_wp2_with fail
  refine (start_any false w _ hb8).mono ?_
  rintro e w9 ⟨bb, b, lb, m, rl, v, vm, tn, rfl, t⟩
  have al : Alike w bb b m false 0 w9 := ⟨lb, rl, v, vm, tn, [], [], t, Nat.le_refl _⟩
  have HS := Hid.mk hsum
  have AL := Hid.mk al
  clear hsum hb8 t al
  go_wp2
  go_loopw [12, 13, 14, 81] (fun _ _ _ i wr => ∃ (k : Nat), k ≤ len ∧ i = .int .i64 k ∧ Hid (Alike w bb b m false k wr)) (fun _ _ _ i _ => len - (intOf i).toNat)
  case atStart => exact ⟨0, Nat.zero_le _, rfl, AL⟩
  case round =>
    clear AL
    obtain ⟨k, hk, rfl, al⟩ := hrel
    obtain ⟨lb, rl, v, vm, tn, dn, ws, t, hn⟩ := al.out
    clear al
    by_cases hlt : k < len
    · obtain ⟨g, off, rfl, hat⟩ := ha.at_ k hlt
      obtain ⟨c, c0, c1, c2, c3, hsz, -⟩ := round_facts hat ha.1 t.l.d.below HS.out k hlt
      have HK := Hid.mk hlt
      obtain ⟨q, s1, kp, pt⟩ := c
      dsimp only at c0 c1 c2 c3 hsz
      have hA := t.grow ((Below.refl _ _).alloc (Nat.le_refl _) (.cells #[.int .i64 q, .string s1, .int .i64 kp, .int .i64 pt] 38))
      have hD := does_any ⟨q, s1, kp, pt⟩ hA (by omega) hsz
      have HD := Hid.mk hD
      clear hat t hA hD
      go_wp2_with fail
      refine HD.out.mono ?_
      rintro e w10 ⟨rfl, al7⟩
      have hk51 : k + 1 ≤ 50 := by omega
      obtain ⟨lb, rl, v, vm, tn, dn2, ws2, t, hn2⟩ := al7
      have AL7 : Hid (Alike w bb b m false (k + 1) w10) := Hid.mk ⟨lb, rl, v, vm, tn, dn2, ws2, t, by omega⟩
      have hlen : (dn2 ++ ws2).length ≤ 1000000 := by omega
      obtain ⟨T, S, L, LS, SF, F⟩ := told t hlen
      have x2 := t.x2
      have HF := Hid.mk F
      clear HD c0 c1 c2 c3 hn hn2 hlen t F
      go_wp2_with fail
      refine (HF.out.text w10 (Below.refl _ _)).mono ?_
      rintro e w11 ⟨rfl, hb11⟩
      have hb12 := hb11.drew
      have y2 := HF.out.x2 _ hb11
      have y0 := HF.out.g0 _ hb11
      have y1 := HF.out.m1 _ hb11
      clear x2
      go_wp2_with fail
      go_region_held3 (fun wx => wx.cell? ⟨bb, 2, none⟩ = some (.pointer (some ⟨rl, 0, none⟩)) ∧ wx.cell? ⟨rl, 0, none⟩ = some (.pointer (some ⟨m, 0, none⟩)) ∧ wx.cell? ⟨m, 1, none⟩ = some (.int .i64 SF))
        (first
          | exact ⟨y2, y0, y1⟩
          | exact hS2
          | exact hS1)
        ((first
          | (have := m1; go_at_call 23; refine (refAll_any _ S (by have := HF.out.sS; omega)).mono ?_; rintro e w14 ⟨v14, L14, rfl, hL14, hown14, hbx⟩; have hb14 := hb13.trans (hbx.mono hb13.size); have hS2 := And.intro (HF.out.x2 _ hb14) (And.intro (HF.out.g0 _ hb14) (HF.out.m1 _ hb14)); have e14 := hL14.one HF.out.aS; obtain ⟨a14, cap14, rfl, -⟩ := texts_of_row hown14; rw [e14]; clear hbx hown14 hL14 e14)
          | (go_at_call 24; refine (HF.out.part _ hb12).mono ?_; rintro e w13 ⟨rfl, hb13⟩; have hS1 := And.intro (HF.out.x2 _ hb13) (And.intro (HF.out.g0 _ hb13) (HF.out.m1 _ hb13)); have m1 := Hid.mk trivial)))
      clear y2 y0 y1 hS1 hS2 hb11 hb12 hb13 m1
      have hb15 := hb14.drew
      have x1 := HF.out.x1 _ hb14
      have x2 := HF.out.x2 _ hb14
      have x3 := HF.out.g2 _ hb14
      have hLn : L.length ≤ 1000000 := by
        have h1 := HF.out.aT.whole
        rw [size_list] at h1
        have h2 := wholeN_len L
        have h3 := HF.out.sT
        omega
      have HLn := Hid.mk hLn
      clear hLn
      obtain ⟨N, hN⟩ : ∃ N, N = wholeN L := ⟨_, rfl⟩
      obtain ⟨M, hM⟩ : ∃ M, M = LS.length := ⟨_, rfl⟩
      have hs1 := HF.out.size
      have hs2 := HF.out.whole
      have hs3 := HF.out.lasting
      rw [← hN] at hs1 hs2
      rw [← hM] at hs3 ⊢
      have HSZ := Hid.mk hs1
      have HWH := Hid.mk hs2
      have HLA := Hid.mk hs3
      clear hN hM hs1 hs2 hs3
      go_wp2_with fail
      go_region_held3 (fun wx => wx.cell? ⟨bb, 1, none⟩ = some (.pointer (some ⟨lb, 0, none⟩)) ∧ wx.cell? ⟨bb, 2, none⟩ = some (.pointer (some ⟨rl, 0, none⟩)) ∧ wx.cell? ⟨rl, 2, none⟩ = some (.bool tn))
        (first
          | exact ⟨x1, x2, x3⟩
          | exact hS8
          | exact hS7
          | exact hS6
          | exact hS5
          | exact hS4
          | exact hS3
          | exact hS2
          | exact hS1)
        ((first
          | (have := hS7; go_at_call 18; refine (HF.out.area _ hd7).mono ?_; rintro e z8 ⟨rfl, hd8⟩; have hS8 := And.intro (HF.out.x1 _ hd8) (And.intro (HF.out.x2 _ hd8) (HF.out.g2 _ hd8)))
          | (have := hS6; go_at_call 16; refine (HLA.out _ hd6).mono ?_; rintro e z7 ⟨rfl, hd7⟩; have hS7 := And.intro (HF.out.x1 _ hd7) (And.intro (HF.out.x2 _ hd7) (HF.out.g2 _ hd7)))
          | (have := hS5; go_at_call 19; refine (HF.out.torn _ hd5).mono ?_; rintro e z6 ⟨rfl, hd6⟩; have hS6 := And.intro (HF.out.x1 _ hd6) (And.intro (HF.out.x2 _ hd6) (HF.out.g2 _ hd6)))
          | (have := hS4; go_at_call 26; refine (HWH.out _ hd4).mono ?_; rintro e z5 ⟨rfl, hd5⟩; have hS5 := And.intro (HF.out.x1 _ hd5) (And.intro (HF.out.x2 _ hd5) (HF.out.g2 _ hd5)))
          | (have := hS3; go_at_call 17; refine (HSZ.out _ hd3).mono ?_; rintro e z4 ⟨rfl, hd4⟩; have hS4 := And.intro (HF.out.x1 _ hd4) (And.intro (HF.out.x2 _ hd4) (HF.out.g2 _ hd4)))
          | (have := hS2; go_at_call 25; refine (same_yes HLn.out ht2 hu2).mono ?_; rintro e z3 ⟨rfl, hbx⟩; have hd3 := hd2.trans (hbx.mono hd2.size); have hS3 := And.intro (HF.out.x1 _ hd3) (And.intro (HF.out.x2 _ hd3) (HF.out.g2 _ hd3)); clear hbx)
          | (have := hS1; go_at_call 23; refine (refAll_any _ T (by have := HF.out.sT; omega)).mono ?_; rintro e z2 ⟨v2, L2, rfl, hL2, hown2, hbx⟩; have hd2 := hd1.trans (hbx.mono hd1.size); have hS2 := And.intro (HF.out.x1 _ hd2) (And.intro (HF.out.x2 _ hd2) (HF.out.g2 _ hd2)); have e2 := hL2.one HF.out.aT; obtain ⟨a2, cap2, rfl, hu2⟩ := texts_of_row hown2; rw [e2] at hu2; rw [e2]; have ht2 := ht1.carry hbx; clear hbx hown2 hL2 e2)
          | (go_at_call 15; refine (HF.out.loads _ hb15).mono ?_; rintro e z1 ⟨⟨a1, cap1, rfl, ht1⟩, hd1, hbx⟩; have hS1 := And.intro (HF.out.x1 _ hd1) (And.intro (HF.out.x2 _ hd1) (HF.out.g2 _ hd1)); clear hbx)))
      have AL8 : Hid (Alike w bb b m false (k + 1) z8) := Hid.mk (by
        obtain ⟨lb, rl, v, vm, tn, dn2, ws2, t, hn2⟩ := AL7.out
        exact ⟨lb, rl, v, vm, tn, dn2, ws2, t.grow hd8, hn2⟩)
      clear AL7 HF HSZ HWH HLA HLn hS1 hS2 hS3 hS4 hS5 hS6 hS7 hS8 hd1 hd2 hd3 hd4 hd5 hd6 hd7 hd8 ht1 ht2 hu2 x1 x2 x3 hb14 hb15
      go_wp2
      go_roundw
      case rel => exact ⟨k + 1, HK.out, by go_num, AL8⟩
      case measure =>
        have := HK.out
        simp [intOf]
        omega
    · have HB := Hid.mk t.l.d.below
      clear t
      go_wp2
      go_ret
      exact ⟨rfl, HB.out⟩

set_option maxRecDepth 100000 in
set_option maxHeartbeats 12800000 in
theorem walk_true (a : Option Addr) (len cap : Nat) (cs : List Cl) (w : World) (ha : IsCls w a len cap cs) :
    Calls Try.prog 3 #[.int .i64 1, .slice a len cap] w fun e w' => e = .returned (.bool true) ∧ Below w.heap.size w w' := by
  have hT : AllOf (txt true ([] ++ [])).data.toList [] := by
    show AllOf (⟨#[]⟩ : ByteArray).data.toList []
    exact none_empty
  go_enter Try.func3, Try.ntmps3
  go_wp2_with fail
  refine (alive_any w).mono ?_
  rintro e w1 ⟨rfl, hb1⟩
  go_wp2_with fail
  refine (great_any (ha.carry hb1)).mono ?_
  rintro e w2 ⟨hb2, rfl | ⟨rfl, hl50, hsum⟩⟩
  · go_wp2
    go_ret
    exact ⟨rfl, hb1.trans (hb2.mono hb1.size)⟩
  have hb := hb1.trans (hb2.mono hb1.size)
  clear hb1 hb2
  go_wp2_with fail
  refine (walOpen_nil 1 w2).mono ?_
  rintro e w3 ⟨rfl, hw3⟩
  rw [hw3]
  clear hw3 w3
  go_wp2_with fail
  refine (new_any w2).mono ?_
  rintro e w4 ⟨rfl, hw4⟩
  have h0 := Mine.new hb hb.size
  rw [← hw4] at h0
  clear hw4
  go_wp2_with fail
  refine (walOpen_yes true h0.has [] hT).mono ?_
  rintro e w5 ⟨rfl, -, hb5⟩
  have hb4 := h0.below.trans (hb5.mono h0.lo)
  clear hb5 h0 hT hb
  go_wp2_with fail
  refine (force_nil _).mono ?_
  rintro e w5 ⟨rfl, hw5⟩
  rw [hw5]
  clear hw5 w5
  go_wp2_with fail
  refine (clear_nil _).mono ?_
  rintro e w5 ⟨rfl, hw5⟩
  rw [hw5]
  clear hw5 w5
  go_wp2_with fail
  refine (logAppend_nil _ _).mono ?_
  rintro e w5 ⟨rfl, hw5⟩
  rw [hw5]
  clear hw5 w5
  go_wp2_with fail
  refine (loads_nil _).mono ?_
  rintro e w5 ⟨⟨ga, gc, rfl⟩, hb5⟩
  have hb6 := hb4.trans (hb5.mono hb4.size)
  clear hb4 hb5
  go_wp2_with fail
  refine (lasting_nil _).mono ?_
  rintro e w6 ⟨rfl, hw6⟩
  rw [hw6]
  clear hw6 w6
  go_wp2_with fail
  refine (size_nil _).mono ?_
  rintro e w7 ⟨rfl, hb7⟩
  have hb8 := hb6.trans (hb7.mono hb6.size)
  clear hb6 hb7
  go_wp2_with fail
  refine (area_nil _).mono ?_
  rintro e w8 ⟨rfl, hw8⟩
  rw [hw8]
  clear hw8 w8
  go_wp2_with fail
  refine (torn_nil _).mono ?_
  rintro e w8 ⟨rfl, hw8⟩
  rw [hw8]
  clear hw8 w8
  go_wp2_with fail
  refine (start_any true w _ hb8).mono ?_
  rintro e w9 ⟨bb, b, lb, m, rl, v, vm, tn, rfl, t⟩
  have al : Alike w bb b m true 0 w9 := ⟨lb, rl, v, vm, tn, [], [], t, Nat.le_refl _⟩
  have HS := Hid.mk hsum
  have AL := Hid.mk al
  clear hsum hb8 t al
  go_wp2
  go_loopw [12, 13, 14, 81] (fun _ _ _ i wr => ∃ (k : Nat), k ≤ len ∧ i = .int .i64 k ∧ Hid (Alike w bb b m true k wr)) (fun _ _ _ i _ => len - (intOf i).toNat)
  case atStart => exact ⟨0, Nat.zero_le _, rfl, AL⟩
  case round =>
    clear AL
    obtain ⟨k, hk, rfl, al⟩ := hrel
    obtain ⟨lb, rl, v, vm, tn, dn, ws, t, hn⟩ := al.out
    clear al
    by_cases hlt : k < len
    · obtain ⟨g, off, rfl, hat⟩ := ha.at_ k hlt
      obtain ⟨c, c0, c1, c2, c3, hsz, -⟩ := round_facts hat ha.1 t.l.d.below HS.out k hlt
      have HK := Hid.mk hlt
      obtain ⟨q, s1, kp, pt⟩ := c
      dsimp only at c0 c1 c2 c3 hsz
      have hA := t.grow ((Below.refl _ _).alloc (Nat.le_refl _) (.cells #[.int .i64 q, .string s1, .int .i64 kp, .int .i64 pt] 38))
      have hD := does_any ⟨q, s1, kp, pt⟩ hA (by omega) hsz
      have HD := Hid.mk hD
      clear hat t hA hD
      go_wp2_with fail
      refine HD.out.mono ?_
      rintro e w10 ⟨rfl, al7⟩
      have hk51 : k + 1 ≤ 50 := by omega
      obtain ⟨lb, rl, v, vm, tn, dn2, ws2, t, hn2⟩ := al7
      have AL7 : Hid (Alike w bb b m true (k + 1) w10) := Hid.mk ⟨lb, rl, v, vm, tn, dn2, ws2, t, by omega⟩
      have hlen : (dn2 ++ ws2).length ≤ 1000000 := by omega
      obtain ⟨T, S, L, LS, SF, F⟩ := told t hlen
      have x2 := t.x2
      have HF := Hid.mk F
      clear HD c0 c1 c2 c3 hn hn2 hlen t F
      go_wp2_with fail
      refine (HF.out.text w10 (Below.refl _ _)).mono ?_
      rintro e w11 ⟨rfl, hb11⟩
      have hb12 := hb11.drew
      have y2 := HF.out.x2 _ hb11
      have y0 := HF.out.g0 _ hb11
      have y1 := HF.out.m1 _ hb11
      clear x2
      go_wp2_with fail
      go_region_held3 (fun wx => wx.cell? ⟨bb, 2, none⟩ = some (.pointer (some ⟨rl, 0, none⟩)) ∧ wx.cell? ⟨rl, 0, none⟩ = some (.pointer (some ⟨m, 0, none⟩)) ∧ wx.cell? ⟨m, 1, none⟩ = some (.int .i64 SF))
        (first
          | exact ⟨y2, y0, y1⟩
          | exact hS2
          | exact hS1)
        ((first
          | (have := m1; go_at_call 23; refine (refAll_any _ S (by have := HF.out.sS; omega)).mono ?_; rintro e w14 ⟨v14, L14, rfl, hL14, hown14, hbx⟩; have hb14 := hb13.trans (hbx.mono hb13.size); have hS2 := And.intro (HF.out.x2 _ hb14) (And.intro (HF.out.g0 _ hb14) (HF.out.m1 _ hb14)); have e14 := hL14.one HF.out.aS; obtain ⟨a14, cap14, rfl, -⟩ := texts_of_row hown14; rw [e14]; clear hbx hown14 hL14 e14)
          | (go_at_call 24; refine (HF.out.part _ hb12).mono ?_; rintro e w13 ⟨rfl, hb13⟩; have hS1 := And.intro (HF.out.x2 _ hb13) (And.intro (HF.out.g0 _ hb13) (HF.out.m1 _ hb13)); have m1 := Hid.mk trivial)))
      clear y2 y0 y1 hS1 hS2 hb11 hb12 hb13 m1
      have hb15 := hb14.drew
      have x1 := HF.out.x1 _ hb14
      have x2 := HF.out.x2 _ hb14
      have x3 := HF.out.g2 _ hb14
      have hLn : L.length ≤ 1000000 := by
        have h1 := HF.out.aT.whole
        rw [size_list] at h1
        have h2 := wholeN_len L
        have h3 := HF.out.sT
        omega
      have HLn := Hid.mk hLn
      clear hLn
      obtain ⟨N, hN⟩ : ∃ N, N = wholeN L := ⟨_, rfl⟩
      obtain ⟨M, hM⟩ : ∃ M, M = LS.length := ⟨_, rfl⟩
      have hs1 := HF.out.size
      have hs2 := HF.out.whole
      have hs3 := HF.out.lasting
      rw [← hN] at hs1 hs2
      rw [← hM] at hs3 ⊢
      have HSZ := Hid.mk hs1
      have HWH := Hid.mk hs2
      have HLA := Hid.mk hs3
      clear hN hM hs1 hs2 hs3
      go_wp2_with fail
      go_region_held3 (fun wx => wx.cell? ⟨bb, 1, none⟩ = some (.pointer (some ⟨lb, 0, none⟩)) ∧ wx.cell? ⟨bb, 2, none⟩ = some (.pointer (some ⟨rl, 0, none⟩)) ∧ wx.cell? ⟨rl, 2, none⟩ = some (.bool tn))
        (first
          | exact ⟨x1, x2, x3⟩
          | exact hS8
          | exact hS7
          | exact hS6
          | exact hS5
          | exact hS4
          | exact hS3
          | exact hS2
          | exact hS1)
        ((first
          | (have := hS7; go_at_call 18; refine (HF.out.area _ hd7).mono ?_; rintro e z8 ⟨rfl, hd8⟩; have hS8 := And.intro (HF.out.x1 _ hd8) (And.intro (HF.out.x2 _ hd8) (HF.out.g2 _ hd8)))
          | (have := hS6; go_at_call 16; refine (HLA.out _ hd6).mono ?_; rintro e z7 ⟨rfl, hd7⟩; have hS7 := And.intro (HF.out.x1 _ hd7) (And.intro (HF.out.x2 _ hd7) (HF.out.g2 _ hd7)))
          | (have := hS5; go_at_call 19; refine (HF.out.torn _ hd5).mono ?_; rintro e z6 ⟨rfl, hd6⟩; have hS6 := And.intro (HF.out.x1 _ hd6) (And.intro (HF.out.x2 _ hd6) (HF.out.g2 _ hd6)))
          | (have := hS4; go_at_call 26; refine (HWH.out _ hd4).mono ?_; rintro e z5 ⟨rfl, hd5⟩; have hS5 := And.intro (HF.out.x1 _ hd5) (And.intro (HF.out.x2 _ hd5) (HF.out.g2 _ hd5)))
          | (have := hS3; go_at_call 17; refine (HSZ.out _ hd3).mono ?_; rintro e z4 ⟨rfl, hd4⟩; have hS4 := And.intro (HF.out.x1 _ hd4) (And.intro (HF.out.x2 _ hd4) (HF.out.g2 _ hd4)))
          | (have := hS2; go_at_call 25; refine (same_yes HLn.out ht2 hu2).mono ?_; rintro e z3 ⟨rfl, hbx⟩; have hd3 := hd2.trans (hbx.mono hd2.size); have hS3 := And.intro (HF.out.x1 _ hd3) (And.intro (HF.out.x2 _ hd3) (HF.out.g2 _ hd3)); clear hbx)
          | (have := hS1; go_at_call 23; refine (refAll_any _ T (by have := HF.out.sT; omega)).mono ?_; rintro e z2 ⟨v2, L2, rfl, hL2, hown2, hbx⟩; have hd2 := hd1.trans (hbx.mono hd1.size); have hS2 := And.intro (HF.out.x1 _ hd2) (And.intro (HF.out.x2 _ hd2) (HF.out.g2 _ hd2)); have e2 := hL2.one HF.out.aT; obtain ⟨a2, cap2, rfl, hu2⟩ := texts_of_row hown2; rw [e2] at hu2; rw [e2]; have ht2 := ht1.carry hbx; clear hbx hown2 hL2 e2)
          | (go_at_call 15; refine (HF.out.loads _ hb15).mono ?_; rintro e z1 ⟨⟨a1, cap1, rfl, ht1⟩, hd1, hbx⟩; have hS1 := And.intro (HF.out.x1 _ hd1) (And.intro (HF.out.x2 _ hd1) (HF.out.g2 _ hd1)); clear hbx)))
      have AL8 : Hid (Alike w bb b m true (k + 1) z8) := Hid.mk (by
        obtain ⟨lb, rl, v, vm, tn, dn2, ws2, t, hn2⟩ := AL7.out
        exact ⟨lb, rl, v, vm, tn, dn2, ws2, t.grow hd8, hn2⟩)
      clear AL7 HF HSZ HWH HLA HLn hS1 hS2 hS3 hS4 hS5 hS6 hS7 hS8 hd1 hd2 hd3 hd4 hd5 hd6 hd7 hd8 ht1 ht2 hu2 x1 x2 x3 hb14 hb15
      go_wp2
      go_roundw
      case rel => exact ⟨k + 1, HK.out, by go_num, AL8⟩
      case measure =>
        have := HK.out
        simp [intOf]
        omega
    · have HB := Hid.mk t.l.d.below
      clear t
      go_wp2
      go_ret
      exact ⟨rfl, HB.out⟩

theorem walk (x : Int) (a : Option Addr) (len cap : Nat) (cs : List Cl) (w : World) (_ : (Lit.int .i64 x).wf = true) (ha : IsCls w a len cap cs) :
    Calls Try.prog 3 #[.int .i64 x, .slice a len cap] w fun e w' => e = .returned (.bool true) ∧ Below w.heap.size w w' := by
  by_cases h0 : x = 0
  · subst h0
    exact walk_false a len cap cs w ha
  by_cases h1 : x = 1
  · subst h1
    exact walk_true a len cap cs w ha
  exact walk_no x h0 h1 a len cap cs w ha

set_option maxRecDepth 100000 in
theorem lifted (os : Os) (started : os.Started) (H : Type) (enc : TypeId × Value → H) :
    ReturnsInHanded {} Try.checked os 3 .any (Rows.walDoesSpec.pre6 enc Try.prog Try.f3 Rows.walDoesRow.domain false) (Rows.walDoesSpec.post enc Try.prog Try.f3 false true false false) := by
  refine returnsInHanded_of_change (C := Try.checked) own started (by kernel_rfl) Try.func3
    (ChangeSpec.witness6 (enc := enc) (C := Try.checked) false ⟨#[], #[.int .i64 0, .slice none 0 0], []⟩ 8 (by kernel_rfl) (by kernel_rfl) (by kernel_rfl) (by kernel_rfl)) ?_
  intro W base args ds gs before hval0 hW hcnd _
  have hval : ∀ (j : Nat) t v, Try.f3.params[j]? = some t → args[j]? = some v → Value.okWide Try.prog W .any base t v := hval0
  have hW' := hW
  obtain ⟨p, q, hA0, hV, rfl, hfz, hnd⟩ := hW
  have hA : DataW.TrodAll enc Try.prog W 0 (fun _ => true) true Try.f3.params.toList args.toList ds p := hA0
  rw [Try.params3] at hA hval
  obtain ⟨v0, vs0, d0, ds0, p0, q0, hargs, rfl, rfl, h0, r0⟩ := trodAll_cons hA
  obtain ⟨v1, vs1, d1, ds1, p1, q1, rfl, rfl, rfl, h1, r1⟩ := trodAll_cons r0
  obtain ⟨rfl, rfl, rfl⟩ := trodAll_nil r1
  obtain rfl : args = #[v0, v1] := by cases args; simp_all
  obtain ⟨rfl, rfl⟩ := trodVars_none hV
  obtain ⟨a0, rfl, rfl, rfl, w0⟩ := open_int Try.underlying3 (hval 0 3 v0 rfl rfl) h0
  obtain ⟨a1, len1, cap1, rfl⟩ := okWide_slice Try.underlying22 (hval 1 22 v1 rfl rfl)
  have k1 := h1
  have lt1 : ∀ x ∈ p1, x.block < W.heap.size := by obtain ⟨m, hm⟩ := k1; exact DataW.trod_lt m _ _ _ hm
  obtain ⟨ts1, w1⟩ : ∃ ts, IsCls W a1 len1 cap1 ts := by
    obtain ⟨fuel, hf⟩ := h1
    exact open_cls hf
  clear hA0 hval0
  refine (walk a0 a1 len1 cap1 ts1 W w0 w1).mono fun e W' ⟨he, bel⟩ => ?_
  subst he
  exact ⟨_, rfl, _, _, _, [], _, [], hW', trodAll_mk1 (shut_bool Try.underlying4 _), (trodAll_cons_mk (shut_int Try.underlying3 w0) (trodAll_cons_mk (Below.trod laidOut (by kernel_rfl) (of_decide_eq_true (by kernel_rfl)) k1 bel lt1) trodAll_mk0)), rfl, bel.frame _, fun h => by cases h⟩

theorem over : Rows.walDoesRow.holds Try.pinned (OpenSpec.ofChange Rows.walDoesSpec) :=
  OpenClaim.holds_of_wide 3 Try.f3 rfl rfl rfl rfl rfl rfl rfl ⟨rfl, rfl, rfl, rfl, rfl⟩ rfl rfl rfl rfl rfl (by kernel_rfl) Try.func3 (by kernel_rfl)
    (of_decide_eq_true (by kernel_rfl)) (by unfold Func.isWrapper; first | (rw [if_pos (by decide +kernel)]; kernel_rfl) | (rw [if_neg (by decide +kernel)]; exact ⟨rfl, rfl⟩))
    (fun os started H enc _ => lifted os started H enc)

end Go.Proofs.Ytejmameebhbcbaa.walDoes

namespace Go.Proofs.Ytejmameebhbcbaa
/-- The statement. -/
theorem walDoes_holds : Rows.WalDoesSaid := walDoes.over
#print axioms walDoes_holds
end Go.Proofs.Ytejmameebhbcbaa
