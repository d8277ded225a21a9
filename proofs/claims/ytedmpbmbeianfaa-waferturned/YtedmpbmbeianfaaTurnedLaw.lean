/-
  WaferTurned: for every load, every place and every turn of up to four bytes in a row the law returns true: the record so turned is none, nor is one that is cut. No condition.
-/
import Derived.Test.YtedmpbmbeianfaaTurned
import Derived.Deep.Cut
namespace Go.Proofs.Ytedmpbmbeianfaa.waferTurned
open Go.ChangeShapes Go.WideShapes Go.ChangeAt Go.RowKit
open Go.ChangeMaps (open_string shut_string)

set_option maxHeartbeats 800000 in
theorem walk_small (s : ByteArray) (at_ x : Int) (w : World) (h : 1024 < s.size ∨ x = 0) :
    Calls Try.prog 6 #[.string s, .int .i64 at_, .int .u32 x] w fun e w' => e = .returned (.bool true) ∧ Below w.heap.size w w' := by
  by_cases hs : 1024 < s.size
  · go_enter Try.func6, Try.ntmps6
    go_wp2_with fail
    refine (alive_any _).mono ?_
    rintro e w1 ⟨rfl, hb1⟩
    go_wp2
    go_ret
    exact ⟨rfl, hb1⟩
  · have hx : x = 0 := by
      rcases h with h | h
      · exact absurd h hs
      · exact h
    subst hx
    clear h
    go_enter Try.func6, Try.ntmps6
    go_wp2_with fail
    refine (alive_any _).mono ?_
    rintro e w1 ⟨rfl, hb1⟩
    go_wp2
    go_ret
    exact ⟨rfl, hb1⟩

/-- A byte turned by the lowest byte of a number. -/
def tb (b : UInt8) (y : Nat) : UInt8 := UInt8.ofNat (b.toNat ^^^ (UInt8.ofNat (y % 256)).toNat)

/-- The bytes of a record, the first few of four turned. -/
def turnAt (a c : List UInt8) (b0 b1 b2 b3 : UInt8) (x : Nat) : Nat → List UInt8
  | 0 => a ++ b0 :: b1 :: b2 :: b3 :: c
  | 1 => a ++ tb b0 x :: b1 :: b2 :: b3 :: c
  | 2 => a ++ tb b0 x :: tb b1 (x / 256) :: b2 :: b3 :: c
  | 3 => a ++ tb b0 x :: tb b1 (x / 256) :: tb b2 (x / 256 / 256) :: b3 :: c
  | _ => a ++ tb b0 x :: tb b1 (x / 256) :: tb b2 (x / 256 / 256) :: tb b3 (x / 256 / 256 / 256) :: c

theorem tb_val (b : UInt8) (y : Nat) : ((tb b y).toNat : Int) = bits BinOp.xor IntKind.u8 (b.toNat : Int) ((y % 256 : Nat) : Int) := by
  have h1 := byte_lt b
  rw [u8_xor_nat _ _ h1 (by omega)]
  have e : (UInt8.ofNat (y % 256)).toNat = y % 256 := by simp [UInt8.toNat_ofNat']
  unfold tb
  rw [e, UInt8.toNat_ofNat', Nat.mod_eq_of_lt (Nat.xor_lt_two_pow (n := 8) h1 (by omega))]

theorem turnAt_length (a c : List UInt8) (b0 b1 b2 b3 : UInt8) (x j : Nat) : (turnAt a c b0 b1 b2 b3 x j).length = (a ++ b0 :: b1 :: b2 :: b3 :: c).length := by
  match j with
  | 0 => rfl
  | 1 => simp [turnAt]
  | 2 => simp [turnAt]
  | 3 => simp [turnAt]
  | _ + 4 => simp [turnAt]

section
variable {a c : List UInt8} {b0 b1 b2 b3 : UInt8} {x k : Nat}
theorem turnAt_get0 (h : a.length = k) {hk : k < (turnAt a c b0 b1 b2 b3 x 0).length} : (turnAt a c b0 b1 b2 b3 x 0)[k] = b0 := by
  subst h
  simp [turnAt]
theorem turnAt_set0 (h : a.length = k) : (turnAt a c b0 b1 b2 b3 x 0).set k (tb b0 x) = turnAt a c b0 b1 b2 b3 x 1 := by
  subst h
  simp [turnAt]
theorem tb_val0 {b : UInt8} (_hx : x < 4294967296) : ((tb b x).toNat : Int) = bits BinOp.xor IntKind.u8 (b.toNat : Int) ((x : Int) % 256) := by
  rw [tb_val]
  congr 1
theorem turnAt_get1 (h : a.length = k) {hk : k + 1 < (turnAt a c b0 b1 b2 b3 x 1).length} : (turnAt a c b0 b1 b2 b3 x 1)[k + 1] = b1 := by
  subst h
  simp [turnAt]
theorem turnAt_set1 (h : a.length = k) : (turnAt a c b0 b1 b2 b3 x 1).set (k + 1) (tb b1 (x / 256)) = turnAt a c b0 b1 b2 b3 x 2 := by
  subst h
  simp [turnAt]
theorem tb_val1 {b : UInt8} (_hx : x < 4294967296) : ((tb b (x / 256)).toNat : Int) = bits BinOp.xor IntKind.u8 (b.toNat : Int) ((x : Int) / 256 % 256) := by
  rw [tb_val]
  congr 1
theorem turnAt_get2 (h : a.length = k) {hk : k + 2 < (turnAt a c b0 b1 b2 b3 x 2).length} : (turnAt a c b0 b1 b2 b3 x 2)[k + 2] = b2 := by
  subst h
  simp [turnAt]
theorem turnAt_set2 (h : a.length = k) : (turnAt a c b0 b1 b2 b3 x 2).set (k + 2) (tb b2 (x / 256 / 256)) = turnAt a c b0 b1 b2 b3 x 3 := by
  subst h
  simp [turnAt]
theorem tb_val2 {b : UInt8} (_hx : x < 4294967296) : ((tb b (x / 256 / 256)).toNat : Int) = bits BinOp.xor IntKind.u8 (b.toNat : Int) ((x : Int) / 65536 % 256) := by
  rw [tb_val]
  congr 1
  omega
theorem turnAt_get3 (h : a.length = k) {hk : k + 3 < (turnAt a c b0 b1 b2 b3 x 3).length} : (turnAt a c b0 b1 b2 b3 x 3)[k + 3] = b3 := by
  subst h
  simp [turnAt]
theorem turnAt_set3 (h : a.length = k) : (turnAt a c b0 b1 b2 b3 x 3).set (k + 3) (tb b3 (x / 256 / 256 / 256)) = turnAt a c b0 b1 b2 b3 x 4 := by
  subst h
  simp [turnAt]
theorem tb_val3 {b : UInt8} (hx : x < 4294967296) : ((tb b (x / 256 / 256 / 256)).toNat : Int) = bits BinOp.xor IntKind.u8 (b.toNat : Int) ((x : Int) / 16777216) := by
  rw [tb_val]
  congr 1
  omega
end

theorem wrap_two (m : Nat) (h : m ≤ 2000) : wrap64 (2 + wrap64 (m : Int)) = ((2 + m : Nat) : Int) := by
  have e : wrap64 (m : Int) = (m : Int) := by unfold wrap64; omega
  rw [e]
  unfold wrap64
  omega

theorem six_five (n : Int) : n + 6 - 5 = n + 1 := by omega

theorem four_at {l : List UInt8} {k : Nat} (h : k + 4 ≤ l.length) : ∃ a b0 b1 b2 b3 c, l = a ++ b0 :: b1 :: b2 :: b3 :: c ∧ a.length = k := by
  have hd : (l.drop k).length = l.length - k := by simp
  match e : l.drop k, hd with
  | b0 :: b1 :: b2 :: b3 :: c, _ => exact ⟨l.take k, b0, b1, b2, b3, c, by rw [← e, List.take_append_drop], by rw [List.length_take]; omega⟩
  | [], hd => simp at hd; omega
  | [_], hd => simp at hd; omega
  | [_, _], hd => simp at hd; omega
  | [_, _, _], hd => simp at hd; omega

set_option maxHeartbeats 1600000 in
theorem walk_big (s : ByteArray) (at_ : Int) (x : Nat) (w : World) (hs : s.size ≤ 1024) (hx : 0 < x) (hx2 : x < 4294967296) :
    Calls Try.prog 6 #[.string s, .int .i64 at_, .int .u32 x] w fun e w' => e = .returned (.bool true) ∧ Below w.heap.size w w' := by
  have hsl := size_list s
  obtain ⟨r, hr⟩ : ∃ r : ByteArray, r = ⟨(recB s.data.toList).toArray⟩ := ⟨_, rfl⟩
  have hrl : r.data.toList = recB s.data.toList := by rw [hr]
  have hrs : r.size = s.size + 6 := by rw [hr, str_size, recB_length (by omega), hsl]
  have HRL := Hid.mk hrl
  have HR := Hid.mk hr
  have HRS := Hid.mk hrs
  have hxb : ((x : Int) == 0) = false := by simp; omega
  clear hrl hr hrs hsl
  obtain ⟨U, hU⟩ : ∃ U : Nat, IntKind.u64.wrap at_ = (U : Int) := ⟨(at_ % 18446744073709551616).toNat, by rw [IntKind.wrap_u64]; omega⟩
  obtain ⟨m, hmU⟩ : ∃ m : Nat, m = U % (s.size + 1) := ⟨_, rfl⟩
  have hml : m < s.size + 1 := by rw [hmU]; exact Nat.mod_lt _ (by omega)
  have HTM : Hid ((U : Int) % ((s.size : Int) + 1) = (m : Int)) := Hid.mk (by rw [hmU]; push_cast; rfl)
  clear hmU
  go_enter Try.func6, Try.ntmps6
  go_wp2_with fail
  refine (alive_any _).mono ?_
  rintro e w1 ⟨rfl, hb1⟩
  go_wp2_with fail
  refine (close_any _ s (by omega)).mono ?_
  rintro e w2 ⟨rfl, hb2⟩
  rw [← HR.out]
  have hb3 := hb1.trans (hb2.mono hb1.size)
  clear hb1 hb2
  obtain ⟨cp, w3, hcv, hcp, hat, hb4⟩ := bytes_made w2 r
  have hb5 := hb3.trans (hb4.mono hb3.size)
  have hgw : w.heap.size ≤ w2.heap.size := hb3.size
  rw [HRS.out] at hcv hcp
  clear hb3 hb4
  go_upto_region 7 with fail
  obtain ⟨k, hk⟩ : ∃ k : Nat, k = 2 + m := ⟨_, rfl⟩
  have hkk : wrap64 (2 + wrap64 ((U : Int) % ((s.size : Int) + 6 - 5))) = (k : Int) := by
    rw [six_five]
    rw [HTM.out, hk]
    exact wrap_two m (by omega)
  rw [hkk]
  have hk2 : 2 ≤ k := by omega
  have hk3 : k ≤ s.size + 2 := by omega
  clear hkk hk hml hU
  obtain ⟨a, b0, b1, b2, b3, c, hdec, hal⟩ : ∃ a b0 b1 b2 b3 c, recB s.data.toList = a ++ b0 :: b1 :: b2 :: b3 :: c ∧ a.length = k := four_at (by rw [recB_length (by rw [size_list]; omega), size_list]; omega)
  have hcut := hat.head cp k (by rw [size_list, HRS.out]; omega)
  rw [HRL.out] at hat hcut
  have HCN : Hid (∀ l, ¬ Begins ((recB s.data.toList).take k) l) := Hid.mk (cut_none (by rw [size_list]; omega) hk2 (by rw [size_list]; omega))
  have HTN : Hid (∀ l, ¬ Begins (a ++ turned [b0, b1, b2, b3] (le 4 x) ++ c) l) := Hid.mk (turned_none (by rw [size_list]; omega) hdec (by omega) hx hx2)
  obtain ⟨cs, hcs⟩ : ∃ cs : ByteArray, cs = ⟨((recB s.data.toList).take k).toArray⟩ := ⟨_, rfl⟩
  have hcl : cs.data.toList = (recB s.data.toList).take k := by rw [hcs]
  have hcz : cs.size ≤ 2000 := by rw [← size_list, hcl, List.length_take]; omega
  rw [← hcs] at hcut
  rw [hdec] at hat
  have HCL := Hid.mk hcl
  have hlen : (a ++ b0 :: b1 :: b2 :: b3 :: c).length = s.size + 6 := by rw [← hdec, recB_length (by rw [size_list]; omega), size_list]
  have HLEN := Hid.mk hlen
  have HAL := Hid.mk hal
  clear hdec hal hcl hcs hlen
  have hkc : (k : Int) ≤ (cp : Int) := by omega
  go_wp2_with fail
  go_loopw [10] (fun i wr => ∃ j : Nat, j ≤ 4 ∧ i = .int .i64 j ∧ BytesAt wr w2.heap.size (turnAt a c b0 b1 b2 b3 x j) ∧ Below w.heap.size w wr) (fun i _ => 4 - (intOf i).toNat)
  case atStart => exact ⟨0, by omega, rfl, hat, hb5⟩
  case round =>
    obtain ⟨j, hj, rfl, hba, hbr⟩ := hrel
    clear hat hb5 hcut hcv
    by_cases hlt : j < 4
    · have h4 : j = 0 ∨ j = 1 ∨ j = 2 ∨ j = 3 := by omega
      rcases h4 with rfl | rfl | rfl | rfl
      · have hc0 := hba.cell k (by rw [turnAt_length, HLEN.out]; omega)
        have hf0 := hba.free k (by rw [turnAt_length, HLEN.out]; omega)
        rw [turnAt_get0 HAL.out] at hc0
        have HST := Hid.mk (hba.set k (by rw [turnAt_length, HLEN.out]; omega) (tb b0 x))
        rw [turnAt_set0 HAL.out, tb_val0 (x := x) hx2] at HST
        clear hba
        go_wp2
        go_roundw
        case rel => exact ⟨1, by omega, rfl, HST.out, hbr.setCell (p := ⟨w2.heap.size, k, none⟩) hgw _⟩
        case measure => simp [intOf]
      · have hc0 := hba.cell (k + 1) (by rw [turnAt_length, HLEN.out]; omega)
        have hf0 := hba.free (k + 1) (by rw [turnAt_length, HLEN.out]; omega)
        rw [turnAt_get1 HAL.out] at hc0
        have HST := Hid.mk (hba.set (k + 1) (by rw [turnAt_length, HLEN.out]; omega) (tb b1 (x / 256)))
        rw [turnAt_set1 HAL.out, tb_val1 (x := x) hx2] at HST
        clear hba
        go_wp2
        go_roundw
        case rel => exact ⟨2, by omega, rfl, HST.out, hbr.setCell (p := ⟨w2.heap.size, (k + 1), none⟩) hgw _⟩
        case measure => simp [intOf]
      · have hc0 := hba.cell (k + 2) (by rw [turnAt_length, HLEN.out]; omega)
        have hf0 := hba.free (k + 2) (by rw [turnAt_length, HLEN.out]; omega)
        rw [turnAt_get2 HAL.out] at hc0
        have HST := Hid.mk (hba.set (k + 2) (by rw [turnAt_length, HLEN.out]; omega) (tb b2 (x / 256 / 256)))
        rw [turnAt_set2 HAL.out, tb_val2 (x := x) hx2] at HST
        clear hba
        go_wp2
        go_roundw
        case rel => exact ⟨3, by omega, rfl, HST.out, hbr.setCell (p := ⟨w2.heap.size, (k + 2), none⟩) hgw _⟩
        case measure => simp [intOf]
      · have hc0 := hba.cell (k + 3) (by rw [turnAt_length, HLEN.out]; omega)
        have hf0 := hba.free (k + 3) (by rw [turnAt_length, HLEN.out]; omega)
        rw [turnAt_get3 HAL.out] at hc0
        have HST := Hid.mk (hba.set (k + 3) (by rw [turnAt_length, HLEN.out]; omega) (tb b3 (x / 256 / 256 / 256)))
        rw [turnAt_set3 HAL.out, tb_val3 (x := x) hx2] at HST
        clear hba
        go_wp2
        go_roundw
        case rel => exact ⟨4, by omega, rfl, HST.out, hbr.setCell (p := ⟨w2.heap.size, (k + 3), none⟩) hgw _⟩
        case measure => simp [intOf]
    · have hj4 : j = 4 := by omega
      subst hj4
      have hst := hba.back cp
      rw [turnAt_length, HLEN.out] at hst
      obtain ⟨ts, hts⟩ : ∃ ts : ByteArray, ts = ⟨(turnAt a c b0 b1 b2 b3 x 4).toArray⟩ := ⟨_, rfl⟩
      rw [← hts] at hst
      have htz : ts.size ≤ 2000 := by rw [hts, str_size, turnAt_length, HLEN.out]; omega
      have HTS : Hid (ts.data.toList = a ++ turned [b0, b1, b2, b3] (le 4 x) ++ c) := Hid.mk (by rw [hts]; simp [turnAt, turned, le, tb])
      clear hts hba
      go_wp2_with fail
      refine (open_any _ ts (by omega)).mono ?_
      rintro e w5 ⟨ld, n, rfl, ho, hb6⟩
      rw [HTS.out] at ho
      have hn0 := opened_none ho HTN.out
      subst hn0
      have hb7 := hbr.trans (hb6.mono hbr.size)
      clear ho hb6 hbr hst
      go_wp2_with fail
      refine (open_any _ cs (by omega)).mono ?_
      rintro e w6 ⟨ld2, n2, rfl, ho, hb8⟩
      rw [HCL.out] at ho
      have hn0 := opened_none ho HCN.out
      subst hn0
      have hb9 := hb7.trans (hb8.mono hb7.size)
      clear ho hb8 hb7
      go_wp2
      go_ret
      exact ⟨rfl, hb9⟩

theorem walk (s : ByteArray) (a x : Int) (w : World) (_ha : (Lit.int .i64 a).wf = true) (hx : (Lit.int .u32 x).wf = true) :
    Calls Try.prog 6 #[.string s, .int .i64 a, .int .u32 x] w fun e w' => e = .returned (.bool true) ∧ Below w.heap.size w w' := by
  by_cases h : 1024 < s.size ∨ x = 0
  · exact walk_small s a x w h
  · have hb := bounds_u32 hx
    obtain ⟨y, rfl⟩ := Int.eq_ofNat_of_zero_le hb.1
    exact walk_big s a y w (by omega) (by omega) (by omega)

set_option maxRecDepth 100000 in
theorem lifted (os : Os) (started : os.Started) (H : Type) (enc : TypeId × Value → H) :
    ReturnsInHanded {} Try.checked os 6 .any (Rows.waferTurnedSpec.pre6 enc Try.prog Try.f6 Rows.waferTurnedRow.domain false) (Rows.waferTurnedSpec.post enc Try.prog Try.f6 false true false false) := by
  refine returnsInHanded_of_change (C := Try.checked) own started (by kernel_rfl) Try.func6
    (ChangeSpec.witness6 (enc := enc) (C := Try.checked) false ⟨#[], #[.string .empty, .int .i64 0, .int .u32 0], []⟩ 8 (by kernel_rfl) (by kernel_rfl) (by kernel_rfl) (by kernel_rfl)) ?_
  intro W base args ds gs before hval0 hW hcnd _
  have hval : ∀ (j : Nat) t v, Try.f6.params[j]? = some t → args[j]? = some v → Value.okWide Try.prog W .any base t v := hval0
  have hW' := hW
  obtain ⟨p, q, hA0, hV, rfl, hfz, hnd⟩ := hW
  have hA : DataW.TrodAll enc Try.prog W 0 (fun _ => true) true Try.f6.params.toList args.toList ds p := hA0
  rw [Try.params6] at hA hval
  obtain ⟨v0, vs0, d0, ds0, p0, q0, hargs, rfl, rfl, h0, r0⟩ := trodAll_cons hA
  obtain ⟨v1, vs1, d1, ds1, p1, q1, rfl, rfl, rfl, h1, r1⟩ := trodAll_cons r0
  obtain ⟨v2, vs2, d2, ds2, p2, q2, rfl, rfl, rfl, h2, r2⟩ := trodAll_cons r1
  obtain ⟨rfl, rfl, rfl⟩ := trodAll_nil r2
  obtain rfl : args = #[v0, v1, v2] := by cases args; simp_all
  obtain ⟨rfl, rfl⟩ := trodVars_none hV
  obtain ⟨s0, rfl, rfl, rfl, w0⟩ := open_string Try.underlying9 (hval 0 9 v0 rfl rfl) h0
  obtain ⟨a1, rfl, rfl, rfl, w1⟩ := open_int Try.underlying3 (hval 1 3 v1 rfl rfl) h1
  obtain ⟨a2, rfl, rfl, rfl, w2⟩ := open_int Try.underlying24 (hval 2 24 v2 rfl rfl) h2
  clear hA0 hval0
  refine (walk s0 a1 a2 W w1 w2).mono fun e W' ⟨he, bel⟩ => ?_
  subst he
  exact ⟨_, rfl, _, _, _, [], _, [], hW', trodAll_mk1 (shut_bool Try.underlying4 _), (trodAll_cons_mk (shut_string Try.underlying9 w0) (trodAll_cons_mk (shut_int Try.underlying3 w1) (trodAll_cons_mk (shut_int Try.underlying24 w2) trodAll_mk0))), rfl, bel.frame _, fun h => by cases h⟩

theorem over : Rows.waferTurnedRow.holds Try.pinned (OpenSpec.ofChange Rows.waferTurnedSpec) :=
  OpenClaim.holds_of_wide 6 Try.f6 rfl rfl rfl rfl rfl rfl rfl ⟨rfl, rfl, rfl, rfl, rfl⟩ rfl rfl rfl rfl rfl (by kernel_rfl) Try.func6 (by kernel_rfl)
    (of_decide_eq_true (by kernel_rfl)) (by unfold Func.isWrapper; first | (rw [if_pos (by decide +kernel)]; kernel_rfl) | (rw [if_neg (by decide +kernel)]; exact ⟨rfl, rfl⟩))
    (fun os started H enc _ => lifted os started H enc)

end Go.Proofs.Ytedmpbmbeianfaa.waferTurned

namespace Go.Proofs.Ytedmpbmbeianfaa
/-- The statement. -/
theorem turned_holds : Rows.WaferTurnedSaid := waferTurned.over
#print axioms turned_holds
end Go.Proofs.Ytedmpbmbeianfaa
