/-
  The walk of (*Stylus).number: behind it the stylus has the number's bytes behind what it had, for every number of 64 bits without a sign.
-/
import Derived.Test.YtdngehfebmaegaaRows
import Derived.Test.YtdngehfebmaegaaYParts
namespace Go.Proofs.Ytdngehfebmaegaa.Sty
open Go.RowKit

set_option maxRecDepth 100000 in
theorem Try.info5 : (Try.prog.info? 5).map (fun i => (i.zero, i.size, i.bytes)) = some (some (.int .u8 0), 1, 1) := by kernel_rfl

theorem Hid.mk {p : Prop} (h : p) : Hid p := h

theorem bcell_small {m : Nat} (h : m < 128) : [Value.int .u8 (m : Int)] = bcells [UInt8.ofNat m] := by
  have e : (UInt8.ofNat m).toNat = m := by simp [UInt8.toNat_ofNat']; omega
  simp [bcells, e]

theorem or_128 : ∀ c : Fin 256, bits BinOp.or IntKind.u8 ((c.val : Nat) : Int) 128 = ((128 + c.val % 128 : Nat) : Int) := by decide +kernel

theorem bcell_great (m : Nat) : [Value.int .u8 (bits BinOp.or IntKind.u8 ((m : Int) % 256) 128)] = bcells [UInt8.ofNat (128 + m % 128)] := by
  have h := or_128 ⟨m % 256, by omega⟩
  have h2 : ((m : Int) % 256) = ((m % 256 : Nat) : Int) := by omega
  have h3 : m % 256 % 128 = m % 128 := by omega
  rw [h2, h]
  simp [bcells, h3]
  omega

/-- One byte more. -/
theorem fin_wrote {w wr w1 : World} {b g n cap : Nat} {v u : Value} {bs add : List UInt8} {o : Obj} {cs : List Value} (hp : Pen wr b u bs) (hw : Wrote b v w u wr)
    (hown : w1.ownsRow 0 5 1 (.slice (some ⟨g, 0, none⟩) n cap) n (bcells bs ++ cs)) (hn : n = (bs ++ add).length) (hcs : cs = bcells add)
    (hgrow : (wr.alloc o).grownBy w1 u.ownBlock) (hat : u.ownBlock = some g ∨ g = wr.heap.size + 1) :
    Pen (w1.setCell ⟨b, 0, none⟩ (.slice (some ⟨g, 0, none⟩) n cap)) b (.slice (some ⟨g, 0, none⟩) n cap) (bs ++ add) ∧
      Wrote b v w (.slice (some ⟨g, 0, none⟩) n cap) (w1.setCell ⟨b, 0, none⟩ (.slice (some ⟨g, 0, none⟩) n cap)) := by
  subst hcs
  obtain ⟨r1, r2⟩ := hp.wrote hown hn hgrow (by rcases hat with e | e; exact .inl e; exact .inr (by omega))
  exact ⟨r1, hw.trans r2⟩

set_option maxHeartbeats 400000 in
set_option maxRecDepth 100000 in
theorem number_any (w : World) (b : Nat) (v : Value) (bs : List UInt8) (n : Nat) (hn : n < 18446744073709551616) (hp : Pen w b v bs) (hl : bs.length ≤ 1099511627776) :
    Calls Try.prog 52 #[.pointer (some ⟨b, 0, none⟩), .int .u64 n] w fun e w' =>
      e = .returned (.tuple #[]) ∧ ∃ v', Pen w' b v' (bs ++ wide n) ∧ Wrote b v w v' w' := by
  obtain ⟨i0, hi, hz0, hz1, hz2⟩ := info_parts Try.info5
  go_enter Try.func52, Try.ntmps52
  go_wp2
  go_loopw [1] (fun x wr => ∃ (m : Nat) (u : Value) (ds : List UInt8), x = .int .u64 m ∧ m < 18446744073709551616 ∧ wide n = ds ++ wide m ∧ Pen wr b u (bs ++ ds) ∧ Wrote b v w u wr) (fun x _ => (intOf x).toNat)
  case atStart => exact ⟨n, v, [], rfl, hn, rfl, by simpa using hp, Wrote.refl _ _ _⟩
  case round =>
    obtain ⟨m, u, ds, rfl, hm, hds, hpr, hwr⟩ := hrel
    have HD : Hid (wide n = ds ++ wide m) := hds
    clear hds
    have hcell := hpr.cell
    have hfr := hpr.frozen
    have hlen : ds.length + (wide m).length ≤ 10 := by
      have h1 := wide_len hn
      rw [HD.out, List.length_append] at h1
      exact h1
    have hpos := wide_pos m
    have hle : (bs ++ ds).length ≤ 1099511627786 := by rw [List.length_append]; omega
    by_cases hlt : m < 128
    · have hm0 : (0 : Int) ≤ (m : Int) := by omega
      have hbyte : ∀ j u', [Value.int .u8 (m : Int)][j]? = some u' → (wr.alloc (.cells #[.int .u8 (m : Int)] 5)).cell? ((⟨wr.heap.size, 0, none⟩ : Addr).add j) = some u' := World.news_of_block (cs := #[.int .u8 (m : Int)]) (heap_alloc_new wr _)
      have HB := hbyte
      clear hbyte
      go_wp2_with (at_builtin; refine wpList_append_lies _ rfl (.tmp 26) (.tmp 29) 63 rfl 0 5 i0 (.int .u8 0) 1 1 Try.underlying63 hi hz0 hz1 hz2 rfl (by decide) u (bs ++ ds).length (bcells (bs ++ ds)) rfl (hpr.owns.alloc _) ⟨wr.heap.size, 0, none⟩ 1 1 [.int .u8 (m : Int)] rfl rfl HB (by intro x hx; simp at hx; subst hx; rfl) (by decide) (by unfold maxLen; omega) (by omega) (by omega) (wr.heap.size + 1) (by simp) ?_)
      intro g cap w1 hown1 hgrow hat hlt1
      obtain ⟨c1, f1⟩ := hpr.in_grown hgrow
      have HO := Hid.mk hown1
      have HG := Hid.mk hgrow
      have HA := Hid.mk hat
      clear hown1 hgrow hat
      go_wp2
      go_end0
      rw [HD.out, wide_small hlt, ← List.append_assoc]
      exact ⟨rfl, _, fin_wrote hpr hwr HO.out (by simp; omega) (bcell_small hlt) HG.out HA.out⟩
    · have hm0 : (128 : Int) ≤ (m : Int) := by omega
      have HB : ∀ j u', [Value.int .u8 (bits BinOp.or IntKind.u8 ((m : Int) % 256) 128)][j]? = some u' → (wr.alloc (.cells #[.int .u8 (bits BinOp.or IntKind.u8 ((m : Int) % 256) 128)] 5)).cell? ((⟨wr.heap.size, 0, none⟩ : Addr).add j) = some u' := World.news_of_block (cs := #[.int .u8 (bits BinOp.or IntKind.u8 ((m : Int) % 256) 128)]) (heap_alloc_new wr _)
      go_wp2_with (at_builtin; refine wpList_append_lies _ rfl (.tmp 12) (.tmp 16) 63 rfl 0 5 i0 (.int .u8 0) 1 1 Try.underlying63 hi hz0 hz1 hz2 rfl (by decide) u (bs ++ ds).length (bcells (bs ++ ds)) rfl (hpr.owns.alloc _) ⟨wr.heap.size, 0, none⟩ 1 1 [.int .u8 (bits BinOp.or IntKind.u8 ((m : Int) % 256) 128)] rfl rfl HB (by intro x hx; simp at hx; subst hx; rfl) (by decide) (by unfold maxLen; omega) (by omega) (by omega) (wr.heap.size + 1) (by simp) ?_)
      intro g cap w1 hown1 hgrow hat hlt1
      obtain ⟨c1, f1⟩ := hpr.in_grown hgrow
      have HO := Hid.mk hown1
      have HG := Hid.mk hgrow
      have HA := Hid.mk hat
      clear hown1 hgrow hat HB
      go_wp2
      go_roundw
      case rel =>
        have R := fin_wrote hpr hwr HO.out (by simp; omega) (bcell_great m) HG.out HA.out
        rw [List.append_assoc] at R
        exact ⟨m / 128, _, ds ++ [UInt8.ofNat (128 + m % 128)], by go_num, by omega, by rw [HD.out, wide_great hlt, List.append_assoc]; rfl, R.1, R.2⟩
      case measure => simp [intOf]; omega

set_option maxRecDepth 100000 in
theorem number_int (w : World) (b : Nat) (v : Value) (bs : List UInt8) (x : Int) (h0 : 0 ≤ x) (hx : x < 18446744073709551616) (hp : Pen w b v bs) (hl : bs.length ≤ 1099511627776) :
    Calls Try.prog 52 #[.pointer (some ⟨b, 0, none⟩), .int .u64 x] w fun e w' =>
      e = .returned (.tuple #[]) ∧ ∃ v', Pen w' b v' (bs ++ wide x.toNat) ∧ Wrote b v w v' w' := by
  obtain ⟨n, rfl⟩ := Int.eq_ofNat_of_zero_le h0
  rw [Int.toNat_natCast]
  exact number_any w b v bs n (by omega) hp hl

end Go.Proofs.Ytdngehfebmaegaa.Sty
