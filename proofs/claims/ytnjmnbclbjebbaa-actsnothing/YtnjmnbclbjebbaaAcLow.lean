/-
  Rows of things in memory, of which some first ones may be all that is looked at: views, rows that are held, append onto them.
-/
import Derived.Test.YtnjmnbclbjebbaaDfLow
import Derived.Test.YtnjmnbclbjebbaaAcMath
import Derived.ArgAppend
namespace Go.Proofs.Ytnjmnbclbjebbaa.Ac
open Go.RowKit Go.Proofs.Ytnjmnbclbjebbaa.Cel Go.Proofs.Ytnjmnbclbjebbaa.Dft

/-! ### Things as cells -/

def eO (p : Pr) : List Value := [.int .i64 p.1, .int .u8 p.2]
def eP (p : Pr) : List Value := [.int .i64 p.1, .int .i64 p.2]
def eI (n : Int) : List Value := [.int .i64 n]
def eA (x : A3) : List Value := [.int .i64 x.1, .int .i64 x.2.1, .int .i64 x.2.2]

section
variable {α : Type} {enc : α → List Value} {s : Nat}

def flat (enc : α → List Value) (l : List α) : List Value := (l.map enc).flatten

theorem flat_nil : flat enc [] = [] := rfl
theorem flat_append (a b : List α) : flat enc (a ++ b) = flat enc a ++ flat enc b := by simp [flat]
theorem flat_one (x : α) : flat enc [x] = enc x := by simp [flat]
theorem flat_length (hE : ∀ x, (enc x).length = s) (l : List α) : (flat enc l).length = l.length * s := by
  induction l with
  | nil => simp [flat]
  | cons x r ih =>
    show (enc x ++ flat enc r).length = _
    rw [List.length_append, hE, ih, List.length_cons, Nat.add_mul]
    omega
theorem flat_get (hE : ∀ x, (enc x).length = s) (l : List α) : ∀ (j : Nat) (hj : j < l.length) (r : Nat), r < s → (flat enc l)[j * s + r]? = (enc l[j])[r]? := by
  induction l with
  | nil => intro j hj; exact absurd hj (Nat.not_lt_zero _)
  | cons x t ih =>
    intro j hj r hr
    have e : flat enc (x :: t) = enc x ++ flat enc t := rfl
    rw [e]
    cases j with
    | zero => rw [List.getElem?_append_left (by rw [hE]; omega)]; simp
    | succ k =>
      have h : (k + 1) * s + r = s + (k * s + r) := by rw [Nat.add_mul]; omega
      rw [h, List.getElem?_append_right (by rw [hE]; omega), hE, Nat.add_sub_cancel_left]
      simpa using ih k (by simpa using hj) r hr
theorem flat_take (hE : ∀ x, (enc x).length = s) (l : List α) (k : Nat) (hk : k ≤ l.length) : (flat enc l).take (k * s) = flat enc (l.take k) := by
  have h : flat enc l = flat enc (l.take k) ++ flat enc (l.drop k) := by rw [← flat_append, List.take_append_drop]
  have hl : (flat enc (l.take k)).length = k * s := by rw [flat_length hE, List.length_take, Nat.min_eq_left hk]
  rw [h, ← hl]
  exact List.take_left' rfl
theorem flat_one_cell (h1 : ∀ x, ∀ u ∈ enc x, u.oneCell' = true) (l : List α) : ∀ u ∈ flat enc l, u.oneCell' = true := fun u hu => by
  obtain ⟨c, hc, huc⟩ := List.mem_flatten.1 hu
  obtain ⟨x, _, rfl⟩ := List.mem_map.1 hc
  exact h1 x u huc

/-! ### What is told of a row that is only read -/

structure ViewAt (w : World) (enc : α → List Value) (s g off : Nat) (l : List α) : Prop where
  lt : g < w.heap.size
  c : ∀ j (hj : j < l.length) r v, (enc l[j])[r]? = some v → w.cell? ⟨g, off + j * s + r, none⟩ = some v

def View (w : World) (enc : α → List Value) (s : Nat) (a : Option Addr) (len cap : Nat) (l : List α) : Prop :=
  l.length = len ∧ len ≤ cap ∧ (l = [] ∧ (a = none → cap = 0) ∨ ∃ g off, a = some ⟨g, off, none⟩ ∧ ViewAt w enc s g off l)

theorem ViewAt.carry {w w' : World} {g off : Nat} {l : List α} (h : ViewAt w enc s g off l) (hb : w'.heap[g]? = w.heap[g]?) (hs : w.heap.size ≤ w'.heap.size) : ViewAt w' enc s g off l :=
  ⟨Nat.lt_of_lt_of_le h.lt hs, fun j hj r v hv => (World.cell?_of_block (w := w) hb).trans (h.c j hj r v hv)⟩
theorem View.grown {w w' : World} {a : Option Addr} {len cap : Nat} {l : List α} (h : View w enc s a len cap l) (hb : Below w.heap.size w w') : View w' enc s a len cap l := by
  obtain ⟨hl, hc, ⟨rfl, hn⟩ | ⟨g, off, rfl, hat⟩⟩ := h
  · exact ⟨hl, hc, .inl ⟨rfl, hn⟩⟩
  · exact ⟨hl, hc, .inr ⟨g, off, rfl, hat.carry (hb.block g hat.lt) hb.size⟩⟩
theorem View.at_ {w : World} {a : Option Addr} {len cap : Nat} {l : List α} (h : View w enc s a len cap l) (hp : 0 < len) : ∃ g off, a = some ⟨g, off, none⟩ ∧ ViewAt w enc s g off l := by
  obtain ⟨hl, _, ⟨rfl, _⟩ | ⟨g, off, e, hat⟩⟩ := h
  · simp at hl; omega
  · exact ⟨g, off, e, hat⟩
theorem View.drew {w : World} {a : Option Addr} {len cap : Nat} {l : List α} (h : View w enc s a len cap l) : View w.drew enc s a len cap l := by
  obtain ⟨hl, hc, ⟨rfl, hn⟩ | ⟨g, off, rfl, hat⟩⟩ := h
  · exact ⟨hl, hc, .inl ⟨rfl, hn⟩⟩
  · exact ⟨hl, hc, .inr ⟨g, off, rfl, hat.carry rfl (Nat.le_refl _)⟩⟩
theorem View.zero (w : World) : View w enc s none 0 0 [] := ⟨rfl, Nat.le_refl _, .inl ⟨rfl, fun _ => rfl⟩⟩

/-- Its first ones. -/
theorem View.take {w : World} {a : Option Addr} {len cap : Nat} {l : List α} (h : View w enc s a len cap l) (k : Nat) (hk : k ≤ len) : View w enc s a k cap (l.take k) := by
  obtain ⟨hl, hc, ⟨rfl, hn⟩ | ⟨g, off, rfl, hat⟩⟩ := h
  · simp at hl
    obtain rfl : k = 0 := by omega
    exact ⟨rfl, Nat.zero_le _, .inl ⟨by simp, hn⟩⟩
  · refine ⟨by rw [List.length_take]; omega, by omega, .inr ⟨g, off, rfl, hat.lt, fun j hj r v hv => ?_⟩⟩
    rw [List.length_take] at hj
    rw [List.getElem_take] at hv
    exact hat.c j (by omega) r v hv

/-- Its cells, to be appended. -/
theorem ViewAt.news {w : World} {g off : Nat} {l : List α} (hE : ∀ x, (enc x).length = s) (h0 : 0 < s) (h : ViewAt w enc s g off l) : ∀ j u, (flat enc l)[j]? = some u → w.cell? ((⟨g, off, none⟩ : Addr).add j) = some u := by
  intro j u hu
  have hj : j < l.length * s := by have := (List.getElem?_eq_some_iff.1 hu).1; rwa [flat_length hE] at this
  have hq : j / s < l.length := (Nat.div_lt_iff_lt_mul h0).2 hj
  have hr : j % s < s := Nat.mod_lt _ h0
  have hjs : j / s * s + j % s = j := by rw [Nat.mul_comm]; exact Nat.div_add_mod j s
  have hg := flat_get hE l (j / s) hq (j % s) hr
  rw [hjs, hu] at hg
  rw [Cel.add_plain, show off + j = off + j / s * s + j % s by omega]
  exact h.c _ hq _ _ hg.symm

/-! ### A row that is held: its slice may have less room than its block -/

def Held (w : World) (base : Nat) (e : TypeId) (size : Nat) (v : Value) (n : Nat) (xs : List Value) : Prop :=
  xs.length = n * size ∧ ((v = .slice none 0 0 ∧ n = 0) ∨
    ∃ g cap cur, v = .slice (some ⟨g, 0, none⟩) n cap ∧ base ≤ g ∧ w.heap[g]? = some (.cells cur e (0, 0)) ∧ n ≤ cap ∧ cap ≤ maxLen ∧ cap * size ≤ cur.size ∧ cur.toList.take (n * size) = xs)

section
variable {w w' : World} {base n size : Nat} {e : TypeId} {v : Value} {xs : List Value}

theorem Held.of_own (h : w.ownsRow base e size v n xs) : Held w base e size v n xs := by
  refine ⟨h.1, ?_⟩
  rcases h.2 with h | ⟨g, cap, cur, e1, e2, e3, e4, e5, e6, e7⟩
  · exact .inl h
  · exact .inr ⟨g, cap, cur, e1, e2, e3, e4, e5, Nat.le_of_eq e6.symm, e7⟩
theorem Held.nil (w : World) (base : Nat) (e : TypeId) (size : Nat) : Held w base e size (.slice none 0 0) 0 [] := ⟨by simp, .inl ⟨rfl, rfl⟩⟩
theorem Held.lt (h : Held w base e size v n xs) : ∀ k, v.ownBlock = some k → base ≤ k ∧ k < w.heap.size := by
  intro k hk
  rcases h.2 with ⟨rfl, _⟩ | ⟨g, cap, cur, rfl, hb, hg, _⟩
  · simp [Value.ownBlock] at hk
  · simp [Value.ownBlock] at hk
    subst hk
    exact ⟨hb, (Array.getElem?_eq_some_iff.1 hg).1⟩
theorem Held.carry (h : Held w base e size v n xs) (hv : ∀ k, v.ownBlock = some k → w'.heap[k]? = w.heap[k]?) : Held w' base e size v n xs := by
  refine ⟨h.1, ?_⟩
  rcases h.2 with h | ⟨g, cap, cur, rfl, h0, hg, r⟩
  · exact .inl h
  · exact .inr ⟨g, cap, cur, rfl, h0, by rw [hv g rfl]; exact hg, r⟩
theorem Held.grown (h : Held w base e size v n xs) (hb : Below w.heap.size w w') : Held w' base e size v n xs := h.carry fun k hk => hb.block k (h.lt k hk).2
theorem Held.low (h : Held w base e size v n xs) (b2 : Nat) (hb : ∀ k, v.ownBlock = some k → b2 ≤ k) : Held w b2 e size v n xs := by
  refine ⟨h.1, ?_⟩
  rcases h.2 with h | ⟨g, cap, cur, rfl, h0, r⟩
  · exact .inl h
  · exact .inr ⟨g, cap, cur, rfl, hb g rfl, r⟩
theorem Held.block (h : Held w base e size v n xs) {k : Nat} (hk : v.ownBlock = some k) : ∃ cs, w.heap[k]? = some (.cells cs e (0, 0)) := by
  rcases h.2 with ⟨rfl, _⟩ | ⟨g, cap, cur, rfl, _, hg, _⟩
  · cases hk
  · cases hk
    exact ⟨_, hg⟩
theorem Held.shape (h : Held w base e size v n xs) : ∃ a cap, v = .slice a n cap ∧ (a = none → n = 0 ∧ cap = 0) ∧ n ≤ cap ∧ cap ≤ maxLen := by
  rcases h.2 with ⟨rfl, h0⟩ | ⟨g, cap, cur, rfl, _, _, hn, hm, _⟩
  · exact ⟨none, 0, by rw [h0], fun _ => ⟨h0, rfl⟩, by omega, Nat.zero_le _⟩
  · exact ⟨_, _, rfl, fun e => absurd e (by simp), hn, hm⟩
theorem Held.cell (h : Held w base e size v n xs) {g : Nat} (hg : v.ownBlock = some g) : ∀ j u, xs[j]? = some u → w.cell? ⟨g, j, none⟩ = some u := by
  intro j u hu
  rcases h.2 with ⟨rfl, _⟩ | ⟨g', cap, cur, rfl, _, hgg, _, _, _, ht⟩
  · cases hg
  · cases hg
    rw [cell_of_row w g' j cur e (0, 0) hgg]
    rw [← ht, List.getElem?_take] at hu
    split at hu
    · simpa using hu
    · cases hu

/-- The same row, cut: k things, and no room. -/
theorem Held.cut {a : Option Addr} {cap : Nat} (h : Held w base e size (.slice a n cap) n xs) (k : Nat) (hk : k ≤ n) : Held w base e size (.slice a k k) k (xs.take (k * size)) := by
  have hx := h.1
  rcases h.2 with ⟨e1, h0⟩ | ⟨g, c2, cur, e1, hb, hg, hn, hm, hs, ht⟩
  · injection e1 with e1 _ e2
    subst e1
    obtain rfl : k = 0 := by omega
    exact ⟨by simp, .inl ⟨rfl, rfl⟩⟩
  · injection e1 with e1 _ e2
    subst e1 e2
    have hks : k * size ≤ n * size := Nat.mul_le_mul_right _ hk
    have hcs : n * size ≤ cap * size := Nat.mul_le_mul_right _ hn
    refine ⟨by rw [List.length_take, hx]; exact Nat.min_eq_left hks, .inr ⟨g, k, cur, rfl, hb, hg, Nat.le_refl _, by omega, by omega, ?_⟩⟩
    rw [← ht, List.take_take, Nat.min_eq_left hks]

/-- What is held can be read. -/
theorem Held.view {l : List α} (hE : ∀ x, (enc x).length = size) {a : Option Addr} {len cap : Nat} (h : Held w base e size (.slice a len cap) l.length (flat enc l)) : View w enc size a len cap l := by
  rcases h.2 with ⟨e1, h0⟩ | ⟨g, c2, cur, e1, hb, hg, hn, hm, hs, ht⟩
  · injection e1 with e1 e3 e2
    subst e1 e3 e2
    exact ⟨h0, Nat.le_refl _, .inl ⟨List.eq_nil_of_length_eq_zero h0, fun _ => rfl⟩⟩
  · injection e1 with e1 e3 e2
    subst e1 e3 e2
    refine ⟨rfl, hn, .inr ⟨g, 0, rfl, (Array.getElem?_eq_some_iff.1 hg).1, fun j hj r u hu => ?_⟩⟩
    have hr : r < size := by have := (List.getElem?_eq_some_iff.1 hu).1; rwa [hE] at this
    rw [← flat_get hE l j hj r hr] at hu
    rw [Nat.zero_add]
    exact h.cell rfl _ _ hu

end

section
variable {P : Program} (w : World)

/-- append onto a row that is held. -/
theorem run_append_held (t ty : TypeId) (base : Nat) (e : TypeId) (i : TypeInfo) (z : Value) (size bytes : Nat) (ht : P.underlying t = some (.slice e)) (hi : P.info? e = some i) (hz : i.zero = some z)
    (hsize : i.size = size) (hby : i.bytes = bytes) (hzs : z.cells.size = size) (hsz : 0 < size) (v : Value) (n : Nat) (xs : List Value) (hown : Held w base e size v n xs)
    (a : Addr) (m c : Nat) (news : List Value) (hl : news.length = m * size) (hnews : ∀ j u, news[j]? = some u → w.cell? (a.add j) = some u) (h1 : ∀ u ∈ news, u.oneCell' = true)
    (h63 : n + m ≤ maxLen) (hbytes : (n + m) * bytes ≤ 140737488355328) (hbase : base ≤ w.heap.size) :
    ∃ v' w', (Builtin.append_ #[t, t] ty #[v, .slice (some a) m c]).run P w = .ok v' w' ∧ Held w' base e size v' (n + m) (xs ++ news) ∧ w.grownBy w' v.ownBlock ∧ (∀ k, v'.ownBlock = some k → v.ownBlock = some k ∨ w.heap.size ≤ k) := by
  rcases hown.2 with ⟨rfl, rfl⟩ | ⟨g, cap, cur, rfl, hb, hg, hn, hmx, hcs, htk⟩
  · obtain rfl : xs = [] := List.eq_nil_of_length_eq_zero (by rw [hown.1, Nat.zero_mul])
    obtain ⟨v', w', h1, h2, h3, _, h4⟩ := run_append_own_at (P := P) w base t ty e i z size bytes ht hi hz hsize hby hzs hsz (.slice none 0 0) 0 [] (World.ownsRow_nil w _ e size) a m c news hl hnews h1 h63 hbytes hbase
    refine ⟨v', w', h1, .of_own h2, h3, fun k hk => ?_⟩
    rcases h4 with h4 | h4
    · exact .inl (h4.symm.trans hk)
    · right
      rw [hk] at h4
      injection h4 with h4
      omega
  · by_cases hr : n + m ≤ cap
    · subst hsize
      have hfit : n * i.size + news.length ≤ cur.size := by
        rw [hl, ← Nat.add_mul]
        exact Nat.le_trans (Nat.mul_le_mul_right _ hr) hcs
      have hlen : (xs ++ news).length = (n + m) * i.size := by rw [List.length_append, hown.1, hl, Nat.add_mul]
      have hrun := run_append_room (P := P) w t ty e i ht hi g n cap cur hg a m c news hl hnews h1 hr hfit
      refine ⟨_, _, hrun, ⟨hlen, .inr ⟨g, cap, _, rfl, hb, setRow_heap w g cur _ e _ hg, hr, hmx, ?_, ?_⟩⟩, ⟨rfl, rfl, rfl, by simp, fun k _ hk => setRow_other w g k _ (fun e => hk (by simp [e, Value.ownBlock]))⟩, fun k hk => .inl hk⟩
      · simp only [List.size_toArray, List.length_append, List.length_take, List.length_drop, Array.length_toList]
        omega
      · show ((cur.toList.take (n * i.size) ++ news ++ cur.toList.drop (n * i.size + news.length)).toArray.toList).take ((n + m) * i.size) = xs ++ news
        rw [htk, ← hlen]
        exact List.take_left' rfl
    · obtain ⟨v', w', h1, h2, h3⟩ := run_append_arg_grows (P := P) w t ty e i z size bytes ht hi hz hsize hby hzs hsz ⟨g, 0, none⟩ n cap xs hown.1 (fun j u hu => by rw [addP]; exact hown.cell rfl j u hu) a m c news hl hnews (by omega) h63 hbytes
      have hlo : ∀ k, v'.ownBlock = some k → w.heap.size ≤ k := fun k hk => (h2.lt k hk).1
      exact ⟨v', w', h1, (Held.of_own h2).low base (fun k hk => Nat.le_trans hbase (hlo k hk)), ⟨h3.os, h3.tape, h3.output, h3.size, fun k hk _ => h3.block k hk (by simp)⟩, fun k hk => .inr (hlo k hk)⟩

theorem wpList_append_held {ops : Array Oper} {rest : List Oper} {o : Oper} {a : Act} {Q : Exit → Act → World → Prop} (hgd : o.guard = none) (s x : Operand) (t : TypeId)
    (ho : o.op = .call { callee := .builtin .append, args := #[s, x], argTypes := #[t, t] }) (base : Nat) (e : TypeId) (i : TypeInfo) (z : Value) (size bytes : Nat) (ht : P.underlying t = some (.slice e)) (hi : P.info? e = some i) (hz : i.zero = some z)
    (hsize : i.size = size) (hby : i.bytes = bytes) (hzs : z.cells.size = size) (hsz : 0 < size) (v : Value) (n : Nat) (xs : List Value) (hs : a.eval s = v) (hown : Held w base e size v n xs)
    (ad : Addr) (m c : Nat) (news : List Value) (hx : a.eval x = .slice (some ad) m c) (hl : news.length = m * size) (hnews : ∀ j u, news[j]? = some u → w.cell? (ad.add j) = some u)
    (h1 : ∀ u ∈ news, u.oneCell' = true) (h63 : n + m ≤ maxLen) (hbytes : (n + m) * bytes ≤ 140737488355328) (hbase : base ≤ w.heap.size)
    (h : ∀ v' w', Hid (Held w' base e size v' (n + m) (xs ++ news)) → Hid (w.grownBy w' v.ownBlock) → Hid (∀ k, v'.ownBlock = some k → v.ownBlock = some k ∨ w.heap.size ≤ k) → wpList P ops Q rest (a.put o.dst v') w') :
    wpList P ops Q (o :: rest) a w := by
  refine wpList_plain hgd fun _ hK => ?_
  obtain ⟨v', w', hrun, h2, h3, h4⟩ := run_append_held (P := P) w t o.type base e i z size bytes ht hi hz hsize hby hzs hsz v n xs hown ad m c news hl hnews h1 h63 hbytes hbase
  unfold Oper.wp execOp
  simp only [ho, resolve, invoke, builtin, Sem.run_bind, Sem.run_pure, Result.andThen_ok, List.map_toArray, List.map_cons, List.map_nil, hs, hx, hrun]
  exact hK _ _ (h v' w' h2 h3 h4)

/-- append onto a row of one's own, what is appended being a slice that may be nil. -/
theorem run_append_opt (t ty : TypeId) (base : Nat) (e : TypeId) (i : TypeInfo) (z : Value) (size bytes : Nat) (ht : P.underlying t = some (.slice e)) (hi : P.info? e = some i) (hz : i.zero = some z)
    (hsize : i.size = size) (hby : i.bytes = bytes) (hzs : z.cells.size = size) (hsz : 0 < size) (v : Value) (n : Nat) (xs : List Value) (hown : w.ownsRow base e size v n xs)
    (ad : Option Addr) (m c : Nat) (news : List Value) (hnone : ad = none → m = 0 ∧ c = 0) (hl : news.length = m * size) (hnews : ∀ q, ad = some q → ∀ j u, news[j]? = some u → w.cell? (q.add j) = some u)
    (h1 : ∀ u ∈ news, u.oneCell' = true) (h63 : n + m ≤ maxLen) (hbytes : (n + m) * bytes ≤ 140737488355328) (hbase : base ≤ w.heap.size) :
    ∃ v' w', (Builtin.append_ #[t, t] ty #[v, .slice ad m c]).run P w = .ok v' w' ∧ w'.ownsRow base e size v' (n + m) (xs ++ news) ∧ w.grownBy w' v.ownBlock := by
  cases ad with
  | none =>
    obtain ⟨rfl, rfl⟩ := hnone rfl
    have hn : news = [] := List.eq_nil_of_length_eq_zero (by rw [hl, Nat.zero_mul])
    subst hn
    have hrun := run_append_owned_none (P := P) (w := w) base t ty e i size ht hi v n xs hown
    exact ⟨_, _, hrun, by simpa using hown, World.grownBy.refl _ _⟩
  | some q =>
    obtain ⟨v', w', hrun, h2, h3, _⟩ := run_append_own (P := P) w base t ty e i z size bytes ht hi hz hsize hby hzs hsz v n xs hown q m c news hl (hnews q rfl) h1 h63 hbytes hbase
    exact ⟨v', w', hrun, h2, h3⟩

theorem wpList_append_opt {ops : Array Oper} {rest : List Oper} {o : Oper} {a : Act} {Q : Exit → Act → World → Prop} (hgd : o.guard = none) (s x : Operand) (t : TypeId)
    (ho : o.op = .call { callee := .builtin .append, args := #[s, x], argTypes := #[t, t] }) (base : Nat) (e : TypeId) (i : TypeInfo) (z : Value) (size bytes : Nat) (ht : P.underlying t = some (.slice e)) (hi : P.info? e = some i) (hz : i.zero = some z)
    (hsize : i.size = size) (hby : i.bytes = bytes) (hzs : z.cells.size = size) (hsz : 0 < size) (v : Value) (n : Nat) (xs : List Value) (hs : a.eval s = v) (hown : w.ownsRow base e size v n xs)
    (ad : Option Addr) (m c : Nat) (news : List Value) (hx : a.eval x = .slice ad m c) (hnone : ad = none → m = 0 ∧ c = 0) (hl : news.length = m * size) (hnews : ∀ q, ad = some q → ∀ j u, news[j]? = some u → w.cell? (q.add j) = some u)
    (h1 : ∀ u ∈ news, u.oneCell' = true) (h63 : n + m ≤ maxLen) (hbytes : (n + m) * bytes ≤ 140737488355328) (hbase : base ≤ w.heap.size)
    (h : ∀ v' w', Hid (w'.ownsRow base e size v' (n + m) (xs ++ news)) → Hid (w.grownBy w' v.ownBlock) → wpList P ops Q rest (a.put o.dst v') w') :
    wpList P ops Q (o :: rest) a w := by
  refine wpList_plain hgd fun _ hK => ?_
  obtain ⟨v', w', hrun, h2, h3⟩ := run_append_opt (P := P) w t o.type base e i z size bytes ht hi hz hsize hby hzs hsz v n xs hown ad m c news hnone hl hnews h1 h63 hbytes hbase
  unfold Oper.wp execOp
  simp only [ho, resolve, invoke, builtin, Sem.run_bind, Sem.run_pure, Result.andThen_ok, List.map_toArray, List.map_cons, List.map_nil, hs, hx, hrun]
  exact hK _ _ (h v' w' h2 h3)

end

/-- What a view tells for append. -/
theorem View.opt {w : World} {a : Option Addr} {len cap : Nat} {l : List α} (hE : ∀ x, (enc x).length = s) (h0 : 0 < s) (h : View w enc s a len cap l) :
    (a = none → len = 0 ∧ cap = 0) ∧ (flat enc l).length = len * s ∧ ∀ q, a = some q → ∀ j u, (flat enc l)[j]? = some u → w.cell? (q.add j) = some u := by
  obtain ⟨hl, hc, ⟨rfl, hn⟩ | ⟨g, off, rfl, hat⟩⟩ := h
  · refine ⟨fun e => ⟨hl.symm, hn e⟩, by rw [flat_length hE, hl], fun _ _ j u hu => by simp [flat] at hu⟩
  · refine ⟨fun e => by simp at e, by rw [flat_length hE, hl], fun q e => ?_⟩
    injection e with e
    subst e
    exact hat.news hE h0

end

end Go.Proofs.Ytnjmnbclbjebbaa.Ac
