/-
  Programs as lists of instructions: what each instruction asks of its fields, where it stands, what stood ahead of it; plain facts, no program.
-/
namespace Go.Proofs.Ytkpbampffndjoaa

structure Ins where
  op : Int
  a : Int
  b : Int
  c : Int

instance : Inhabited Ins := ⟨⟨0, 0, 0, 0⟩⟩

/-- One of the first numbers. -/
def lowB (n m : Int) : Bool := decide (0 ≤ n) && decide (n < m)

def isZ (n : Int) : Bool := n == 0

def fitsFileB (x : Ins) : Bool :=
  if x.op = 8 then lowB x.a 4 && lowB x.b 6 && lowB x.c 32
  else if x.op = 9 then lowB x.a 6 && lowB x.b 32 && lowB x.c 4
  else if x.op = 10 ∨ x.op = 11 then lowB x.a 6 && isZ x.b && isZ x.c
  else if x.op = 12 then lowB x.a 6 && lowB x.b 6 && (x.a != x.b) && isZ x.c
  else if x.op = 13 then lowB x.a 6 && lowB x.b 33 && isZ x.c
  else false

def isBare (op : Int) : Prop := op = 0 ∨ op = 4 ∨ op = 5 ∨ op = 19 ∨ op = 21
instance (op : Int) : Decidable (isBare op) := by unfold isBare; infer_instance
def isFile (op : Int) : Prop := op = 8 ∨ op = 9 ∨ op = 10 ∨ op = 11 ∨ op = 12 ∨ op = 13
instance (op : Int) : Decidable (isFile op) := by unfold isFile; infer_instance

/-- Are an instruction's fields such that it can be? -/
def fitsB (x : Ins) : Bool :=
  if isBare x.op then isZ x.a && isZ x.b && isZ x.c
  else if x.op = 1 then lowB x.a 4 && isZ x.c
  else if x.op = 2 then lowB x.a 4 && lowB x.b 4 && isZ x.c
  else if x.op = 3 then lowB x.b 4 && lowB x.c 3
  else if x.op = 6 then lowB x.a 4 && lowB x.b 8 && isZ x.c
  else if x.op = 7 then lowB x.a 8 && lowB x.b 4 && isZ x.c
  else if isFile x.op then fitsFileB x
  else if x.op = 14 then lowB x.a 4 && lowB x.b 3 && isZ x.c
  else if x.op = 15 then lowB x.a 3 && lowB x.b 4 && isZ x.c
  else if x.op = 16 then lowB x.a 3 && lowB x.b 256 && isZ x.c
  else if x.op = 17 then lowB x.a 256 && isZ x.b && isZ x.c
  else if x.op = 18 then lowB x.a 4 && decide (-100 ≤ x.b) && decide (x.b ≤ 100) && isZ x.c
  else if x.op = 20 then isZ x.b && isZ x.c
  else false

def standsB (op : Int) (ins : Bool) : Bool :=
  if op = 0 then !ins else if op = 1 ∨ op = 2 ∨ op = 3 ∨ op = 4 ∨ op = 5 then true else ins

/-- Does what was seen of a block let this op stand next? -/
def letsB (e : Nat) (s : Bool) (op : Int) : Bool :=
  if op = 14 ∨ op = 19 then !s
  else if op = 20 then !s && decide (e + 1 ≤ 3)
  else if op = 21 then !s
  else true
def nextE (e : Nat) (op : Int) : Nat := if op = 4 then 0 else if op = 20 then e + 1 else e
def nextS (s : Bool) (op : Int) : Bool := if op = 4 then false else if op = 21 then true else s

def opA (ps : List Ins) (k : Nat) : Int := ps[k]!.op

/-- How many Begins, Ends stand ahead of a place; how many Elses, and whether an Inev, behind the last Begin. -/
def bg (ps : List Ins) : Nat → Nat
  | 0 => 0
  | k + 1 => bg ps k + if opA ps k = 4 then 1 else 0
def en (ps : List Ins) : Nat → Nat
  | 0 => 0
  | k + 1 => en ps k + if opA ps k = 5 then 1 else 0
def elB (ps : List Ins) : Nat → Nat
  | 0 => 0
  | k + 1 => nextE (elB ps k) (opA ps k)
def suB (ps : List Ins) : Nat → Bool
  | 0 => false
  | k + 1 => nextS (suB ps k) (opA ps k)

/-- Blocks are in order up to a place. -/
def upB (ps : List Ins) : Nat → Bool
  | 0 => true
  | k + 1 => upB ps k && (decide (en ps (k + 1) ≤ bg ps (k + 1)) && decide (bg ps (k + 1) ≤ en ps (k + 1) + 1))
def shB (ps : List Ins) : Bool := upB ps ps.length && decide (bg ps ps.length = en ps ps.length)

/-- In which block a place lies; 0: outside. -/
def inB (ps : List Ins) (k : Nat) : Nat := if bg ps k = en ps k then 0 else bg ps k

def leadsB (ps : List Ins) (i : Nat) (x : Ins) : Bool :=
  if x.op ≠ 3 ∧ x.op ≠ 20 then true
  else decide ((i : Int) < x.a) && decide (x.a < (ps.length + 1 : Nat)) && decide (inB ps x.a.toNat = inB ps i)

/-- Can the i-th instruction be, and stand there? -/
def oneB (ps : List Ins) (i : Nat) : Bool :=
  fitsB ps[i]! && standsB ps[i]!.op (decide (inB ps i ≠ 0)) && letsB (elB ps i) (suB ps i) ps[i]!.op && leadsB ps i ps[i]!

def allB (ps : List Ins) : Nat → Bool
  | 0 => true
  | k + 1 => allB ps k && oneB ps k

/-- What Check answers. -/
def Chk (ps : List Ins) (i e : Int) : Prop :=
  (48 < ps.length ∧ i = 0 ∧ e = 3) ∨
  (ps.length ≤ 48 ∧ shB ps = false ∧ i = 0 ∧ e = 11) ∨
  (ps.length ≤ 48 ∧ shB ps = true ∧ ∃ k : Nat, k < ps.length ∧ allB ps k = true ∧ oneB ps k = false ∧ i = k ∧ e = 11) ∨
  (ps.length ≤ 48 ∧ shB ps = true ∧ allB ps ps.length = true ∧ i = 0 ∧ e = 0)

/-- A program that can be. -/
structure Fine (ps : List Ins) : Prop where
  len : ps.length ≤ 48
  sh : shB ps = true
  all : allB ps ps.length = true

theorem Chk.fine {ps : List Ins} {i : Int} (h : Chk ps i 0) : Fine ps := by
  rcases h with ⟨_, _, h⟩ | ⟨_, _, _, h⟩ | ⟨_, _, _, _, _, _, _, h⟩ | ⟨h1, h2, h3, _, _⟩
  · cases h
  · cases h
  · cases h
  · exact ⟨h1, h2, h3⟩

theorem allB_mono {ps : List Ins} {k : Nat} (h : allB ps k = true) : ∀ j, j ≤ k → allB ps j = true := by
  induction k with
  | zero => intro j hj; obtain rfl : j = 0 := by omega
            rfl
  | succ k ih =>
    intro j hj
    by_cases e : j = k + 1
    · subst e; exact h
    · exact ih (by simp [allB] at h; exact h.1) j (by omega)

theorem allB_one {ps : List Ins} {k : Nat} (h : allB ps k = true) : ∀ j, j < k → oneB ps j = true := fun j hj => by
  have := allB_mono h (j + 1) hj
  simp [allB] at this
  exact this.2

theorem allB_of {ps : List Ins} {k : Nat} (h : ∀ j, j < k → oneB ps j = true) : allB ps k = true := by
  induction k with
  | zero => rfl
  | succ k ih => simp [allB, ih fun j hj => h j (by omega), h k (by omega)]

theorem Chk.one {ps : List Ins} {i e i' e' : Int} (h : Chk ps i e) (h' : Chk ps i' e') : i = i' ∧ e = e' := by
  unfold Chk at h h'
  rcases h with ⟨p1, rfl, rfl⟩ | ⟨p1, p2, rfl, rfl⟩ | ⟨p1, p2, k, p3, p4, p5, rfl, rfl⟩ | ⟨p1, p2, p3, rfl, rfl⟩ <;>
  rcases h' with ⟨q1, rfl, rfl⟩ | ⟨q1, q2, rfl, rfl⟩ | ⟨q1, q2, k', q3, q4, q5, rfl, rfl⟩ | ⟨q1, q2, q3, rfl, rfl⟩ <;>
  first
  | exact ⟨rfl, rfl⟩
  | omega
  | exact absurd (p2.symm.trans q2) (by decide)
  | (have := allB_one q3 _ p3; rw [p5] at this; cases this)
  | (have := allB_one p3 _ q3; rw [q5] at this; cases this)
  | skip
  have : k = k' := by
    rcases Nat.lt_trichotomy k k' with h | h | h
    · have := allB_one q4 _ h; rw [p5] at this; cases this
    · exact h
    · have := allB_one p4 _ h; rw [q5] at this; cases this
  subst this
  exact ⟨rfl, rfl⟩

theorem upB_mono {ps : List Ins} {k : Nat} (h : upB ps k = true) : ∀ j, j ≤ k → upB ps j = true := by
  induction k with
  | zero => intro j hj; obtain rfl : j = 0 := by omega
            rfl
  | succ k ih =>
    intro j hj
    by_cases e : j = k + 1
    · subst e; exact h
    · exact ih (by simp [upB] at h; exact h.1) j (by omega)

theorem upB_at {ps : List Ins} {k : Nat} (h : upB ps k = true) : en ps k ≤ bg ps k ∧ bg ps k ≤ en ps k + 1 := by
  cases k with
  | zero => simp [bg, en]
  | succ k => simp [upB] at h; exact h.2

theorem upB_of {ps : List Ins} {k : Nat} (h : ∀ j, j ≤ k → en ps j ≤ bg ps j ∧ bg ps j ≤ en ps j + 1) : upB ps k = true := by
  induction k with
  | zero => rfl
  | succ k ih =>
    have h1 := h (k + 1) (Nat.le_refl _)
    simp [upB, ih fun j hj => h j (by omega), h1]

/-- Where blocks are in order. -/
structure Sh (ps : List Ins) : Prop where
  up : ∀ k, k ≤ ps.length → en ps k ≤ bg ps k ∧ bg ps k ≤ en ps k + 1
  last : bg ps ps.length = en ps ps.length

theorem shB_iff {ps : List Ins} : shB ps = true ↔ Sh ps := by
  unfold shB
  rw [Bool.and_eq_true, decide_eq_true_iff]
  exact ⟨fun ⟨h1, h2⟩ => ⟨fun k hk => upB_at (upB_mono h1 k hk), h2⟩, fun h => ⟨upB_of h.up, h.last⟩⟩

theorem shB_no {ps : List Ins} {k : Nat} (hk : k ≤ ps.length) (h : ¬ (en ps k ≤ bg ps k ∧ bg ps k ≤ en ps k + 1)) : shB ps = false := by
  cases e : shB ps with
  | false => rfl
  | true => exact absurd ((shB_iff.1 e).up k hk) h

theorem inB_zero {ps : List Ins} {k : Nat} (h : en ps k ≤ bg ps k) : inB ps k = 0 ↔ bg ps k = en ps k := by
  unfold inB
  split
  · next e => simp [e]
  · next e => constructor
              · intro h; omega
              · intro h; exact absurd h e

theorem bg_le (ps : List Ins) (k : Nat) : bg ps k ≤ k := by
  induction k with
  | zero => simp [bg]
  | succ k ih => simp only [bg]; split <;> omega
theorem elB_le (ps : List Ins) (k : Nat) : elB ps k ≤ k := by
  induction k with
  | zero => simp [elB]
  | succ k ih => simp only [elB, nextE]; split <;> (try split) <;> omega
theorem inB_le (ps : List Ins) (k : Nat) : inB ps k ≤ k := by
  unfold inB
  split
  · omega
  · exact bg_le ps k

theorem Fine.one {ps : List Ins} (h : Fine ps) (i : Nat) (hi : i < ps.length) : oneB ps i = true := allB_one h.all i hi

theorem oneB_parts {ps : List Ins} {i : Nat} (h : oneB ps i = true) :
    fitsB ps[i]! = true ∧ standsB ps[i]!.op (decide (inB ps i ≠ 0)) = true ∧ letsB (elB ps i) (suB ps i) ps[i]!.op = true ∧ leadsB ps i ps[i]! = true := by
  unfold oneB at h
  simp only [Bool.and_eq_true] at h
  exact ⟨h.1.1.1, h.1.1.2, h.1.2, h.2⟩

theorem oneB_of {ps : List Ins} {i : Nat} (h1 : fitsB ps[i]! = true) (h2 : standsB ps[i]!.op (decide (inB ps i ≠ 0)) = true) (h3 : letsB (elB ps i) (suB ps i) ps[i]!.op = true) (h4 : leadsB ps i ps[i]! = true) : oneB ps i = true := by
  unfold oneB
  simp only [h1, h2, h3, h4, Bool.and_self]

end Go.Proofs.Ytkpbampffndjoaa
