/- The plain mathematics of reading a protocol: how far a text is read, what is read, which error it comes to. No program is named here. What the reader's small calls do: ended, kind, take; over a reader that lies in one block of memory. What the reader's calls for numbers do: digits, number, takeBounds, plateLetter, restAndStep. What the reader's calls for a rest and a plate do: restAndStep, plate. What the reader's call for a plate does: plate answers the plate's steps, in a slice of its own. -/
import Derived.Test.YtppcnlkhdgmaiaaDoorProg
import Derived.WalkKit
import Derived.WalkSpells
import Derived.WalkLawsBesides
import Derived.Deep.QuietTactic
import Derived.BigQuiet
import Derived.Handy
import Derived.Deep.RegionWith
import Derived.Deep.LoopGhost
namespace Go.Proofs.YtppcnlkhdgmaiaaDoor
namespace Hx

structure St where
  pos : Nat
  bad : Bool

def byteAt (s : ByteArray) (i : Nat) : Nat := if h : i < s.size then (s[i]'h).toNat else 256

theorem byteAt_lt {s : ByteArray} {i : Nat} (h : i < s.size) : byteAt s i = (s[i]'h).toNat := by simp [byteAt, h]
theorem byteAt_ge {s : ByteArray} {i : Nat} (h : s.size ≤ i) : byteAt s i = 256 := by
  have : ¬ i < s.size := by omega
  simp [byteAt, this]
theorem byteAt_in {s : ByteArray} {i : Nat} (h : byteAt s i < 256) : i < s.size := by
  by_cases g : i < s.size
  · exact g
  · rw [byteAt_ge (by omega)] at h; omega

def kindOf (b : Nat) : Nat :=
  if b = 48 then 1 else if 49 ≤ b ∧ b ≤ 57 then 2 else if 97 ≤ b ∧ b ≤ 100 then 3 else if 101 ≤ b ∧ b ≤ 122 then 4 else if b = 44 then 5 else if b = 126 then 6 else if b = 60 then 7 else if b = 62 then 8
  else if b = 59 ∨ b = 61 ∨ b = 45 ∨ b = 64 ∨ b = 43 ∨ b = 58 ∨ b = 47 then 9 else 0

theorem kindOf_one (b : Nat) : kindOf b = 1 ↔ b = 48 := by unfold kindOf; repeat' split <;> try omega
theorem kindOf_two (b : Nat) : kindOf b = 2 ↔ (49 ≤ b ∧ b ≤ 57) := by unfold kindOf; repeat' split <;> try omega
theorem kindOf_three (b : Nat) : kindOf b = 3 ↔ (97 ≤ b ∧ b ≤ 100) := by unfold kindOf; repeat' split <;> try omega
theorem kindOf_four (b : Nat) : kindOf b = 4 ↔ (101 ≤ b ∧ b ≤ 122) := by unfold kindOf; repeat' split <;> try omega
theorem kindOf_five (b : Nat) : kindOf b = 5 ↔ b = 44 := by unfold kindOf; repeat' split <;> try omega
theorem kindOf_six (b : Nat) : kindOf b = 6 ↔ b = 126 := by unfold kindOf; repeat' split <;> try omega
theorem kindOf_seven (b : Nat) : kindOf b = 7 ↔ b = 60 := by unfold kindOf; repeat' split <;> try omega
theorem kindOf_eight (b : Nat) : kindOf b = 8 ↔ b = 62 := by unfold kindOf; repeat' split <;> try omega
theorem kindOf_le (b : Nat) : kindOf b ≤ 9 := by unfold kindOf; repeat' split <;> try omega
theorem kindOf_big {b : Nat} (h : 128 ≤ b) : kindOf b = 0 := by unfold kindOf; repeat' split <;> try omega

/-- One byte must come. -/
def takeF (s : ByteArray) (c : Nat) (st : St) : St := if st.bad = true ∨ byteAt s st.pos ≠ c then ⟨st.pos, true⟩ else ⟨st.pos + 1, false⟩

theorem takeF_bad {s : ByteArray} {c : Nat} {st : St} (h : st.bad = true) : takeF s c st = st := by
  cases st; simp_all [takeF]
theorem takeF_ge (s : ByteArray) (c : Nat) (st : St) : st.pos ≤ (takeF s c st).pos := by unfold takeF; split <;> simp
theorem takeF_le {s : ByteArray} {c : Nat} {st : St} (hc : c < 256) (h : st.pos ≤ s.size) : (takeF s c st).pos ≤ s.size := by
  unfold takeF
  split
  · exact h
  · rename_i g
    have : byteAt s st.pos = c := by
      by_cases e : byteAt s st.pos = c
      · exact e
      · exact absurd (Or.inr e) g
    have := byteAt_in (s := s) (i := st.pos) (by omega)
    simp; omega
theorem takeF_good {s : ByteArray} {c : Nat} {st : St} (h : (takeF s c st).bad = false) : st.bad = false ∧ byteAt s st.pos = c ∧ takeF s c st = ⟨st.pos + 1, false⟩ := by
  unfold takeF at h ⊢
  split at h
  · simp at h
  · rename_i g
    rw [if_neg g]
    refine ⟨?_, ?_, rfl⟩
    · cases hb : st.bad
      · rfl
      · exact absurd (Or.inl hb) g
    · by_cases e : byteAt s st.pos = c
      · exact e
      · exact absurd (Or.inr e) g
theorem takeF_yes {s : ByteArray} {c : Nat} {st : St} (h : st.bad = false) (e : byteAt s st.pos = c) : takeF s c st = ⟨st.pos + 1, false⟩ := by simp [takeF, h, e]
theorem takeF_no {s : ByteArray} {c : Nat} {st : St} (e : byteAt s st.pos ≠ c) : takeF s c st = ⟨st.pos, true⟩ := by simp [takeF, e]

/-- Digits, at most so many, behind a number that is read so far. -/
def digF (s : ByteArray) : Nat → Nat → Nat → Nat × Nat
  | 0, at_, v => (v, at_)
  | k + 1, at_, v => if 48 ≤ byteAt s at_ ∧ byteAt s at_ ≤ 57 then digF s k (at_ + 1) (v * 10 + (byteAt s at_ - 48)) else (v, at_)

theorem digF_ge (s : ByteArray) : ∀ k at_ v, at_ ≤ (digF s k at_ v).2
  | 0, at_, v => by simp [digF]
  | k + 1, at_, v => by
    unfold digF
    split
    · have := digF_ge s k (at_ + 1) (v * 10 + (byteAt s at_ - 48)); omega
    · simp
theorem digF_le (s : ByteArray) : ∀ k at_ v, at_ ≤ s.size → (digF s k at_ v).2 ≤ s.size
  | 0, at_, v, h => by simpa [digF] using h
  | k + 1, at_, v, h => by
    unfold digF
    split
    · rename_i g
      have := byteAt_in (s := s) (i := at_) (by omega)
      exact digF_le s k (at_ + 1) _ (by omega)
    · exact h
theorem digF_val (s : ByteArray) : ∀ k at_ v m, v < 10 ^ m → (digF s k at_ v).1 < 10 ^ (m + k)
  | 0, at_, v, m, h => by simpa [digF] using h
  | k + 1, at_, v, m, h => by
    unfold digF
    split
    · rename_i g
      have := digF_val s k (at_ + 1) (v * 10 + (byteAt s at_ - 48)) (m + 1) (by rw [Nat.pow_succ]; omega)
      rw [show m + (k + 1) = m + 1 + k from by omega]
      exact this
    · have : 10 ^ m ≤ 10 ^ (m + (k + 1)) := Nat.pow_le_pow_right (by omega) (by omega)
      show v < _
      omega
theorem digF_step {s : ByteArray} {k at_ v : Nat} (h : 48 ≤ byteAt s at_ ∧ byteAt s at_ ≤ 57) : digF s (k + 1) at_ v = digF s k (at_ + 1) (v * 10 + (byteAt s at_ - 48)) := by
  rw [digF, if_pos h]
theorem digF_stop {s : ByteArray} {k at_ v : Nat} (h : ¬ (48 ≤ byteAt s at_ ∧ byteAt s at_ ≤ 57)) : digF s k at_ v = (v, at_) := by
  cases k
  · rfl
  · rw [digF, if_neg h]

/-- A number of at most so many digits. -/
def numF (s : ByteArray) (most : Nat) (st : St) : Nat × St :=
  if st.bad = true then (0, st)
  else if byteAt s st.pos = 48 then (0, ⟨st.pos + 1, false⟩)
  else if 49 ≤ byteAt s st.pos ∧ byteAt s st.pos ≤ 57 then ((digF s most st.pos 0).1, ⟨(digF s most st.pos 0).2, false⟩)
  else (0, ⟨st.pos, true⟩)

theorem numF_bad {s : ByteArray} {m : Nat} {st : St} (h : st.bad = true) : numF s m st = (0, st) := by simp [numF, h]
theorem numF_zero {s : ByteArray} {m : Nat} {st : St} (h : st.bad = false) (e : byteAt s st.pos = 48) : numF s m st = (0, ⟨st.pos + 1, false⟩) := by simp [numF, h, e]
theorem numF_dig {s : ByteArray} {m : Nat} {st : St} (h : st.bad = false) (e : 49 ≤ byteAt s st.pos ∧ byteAt s st.pos ≤ 57) : numF s m st = ((digF s m st.pos 0).1, ⟨(digF s m st.pos 0).2, false⟩) := by
  have : ¬ byteAt s st.pos = 48 := by omega
  simp [numF, h, e, this]
theorem numF_no {s : ByteArray} {m : Nat} {st : St} (h : st.bad = false) (e : ¬ (48 ≤ byteAt s st.pos ∧ byteAt s st.pos ≤ 57)) : numF s m st = (0, ⟨st.pos, true⟩) := by
  have h1 : ¬ byteAt s st.pos = 48 := by omega
  have h2 : ¬ (49 ≤ byteAt s st.pos ∧ byteAt s st.pos ≤ 57) := by omega
  simp only [numF, h, if_neg h1, if_neg h2]; simp
theorem numF_ge (s : ByteArray) (m : Nat) (st : St) : st.pos ≤ (numF s m st).2.pos := by
  unfold numF
  split
  · simp
  · split
    · simp
    · split
      · exact digF_ge s m st.pos 0
      · simp
theorem numF_le {s : ByteArray} {m : Nat} {st : St} (h : st.pos ≤ s.size) : (numF s m st).2.pos ≤ s.size := by
  unfold numF
  split
  · exact h
  · split
    · rename_i g
      have := byteAt_in (s := s) (i := st.pos) (by omega)
      show st.pos + 1 ≤ _; omega
    · split
      · exact digF_le s m st.pos 0 h
      · exact h
theorem numF_val (s : ByteArray) (m : Nat) (st : St) : (numF s m st).1 < 10 ^ m := by
  have hp : 0 < 10 ^ m := Nat.pow_pos (by omega)
  unfold numF
  split
  · exact hp
  · split
    · exact hp
    · split
      · have := digF_val s m st.pos 0 0 (by simp); simpa using this
      · exact hp
theorem numF_bad_of {s : ByteArray} {m : Nat} {st : St} (h : st.bad = true) : (numF s m st).2.bad = true := by rw [numF_bad h]; exact h

structure Bd where
  lo : Nat
  hi : Nat

def boundsF (s : ByteArray) (st : St) : Bd × St :=
  let r1 := numF s 3 st
  let r3 := numF s 3 (takeF s 45 r1.2)
  (⟨r1.1, r3.1⟩, r3.2)

theorem boundsF_bad {s : ByteArray} {st : St} (h : st.bad = true) : boundsF s st = (⟨0, 0⟩, st) := by simp [boundsF, numF_bad h, takeF_bad h]
theorem boundsF_ge (s : ByteArray) (st : St) : st.pos ≤ (boundsF s st).2.pos :=
  Nat.le_trans (numF_ge s 3 st) (Nat.le_trans (takeF_ge s 45 _) (numF_ge s 3 _))
theorem boundsF_le {s : ByteArray} {st : St} (h : st.pos ≤ s.size) : (boundsF s st).2.pos ≤ s.size := numF_le (takeF_le (by omega) (numF_le h))
theorem boundsF_lo (s : ByteArray) (st : St) : (boundsF s st).1.lo < 1000 := numF_val s 3 st
theorem boundsF_hi (s : ByteArray) (st : St) : (boundsF s st).1.hi < 1000 := numF_val s 3 _

structure Stp where
  lo : Nat
  hi : Nat
  rest : Bool
  mn : Nat
  mx : Nat

/-- A rest and the step behind it. -/
def restF (s : ByteArray) (st : St) : Stp × St :=
  let r := boundsF s (takeF s 126 st)
  let b := boundsF s (takeF s 126 r.2)
  (⟨b.1.lo, b.1.hi, true, r.1.lo, r.1.hi⟩, b.2)

theorem restF_ge (s : ByteArray) (st : St) : (takeF s 126 st).pos ≤ (restF s st).2.pos :=
  Nat.le_trans (boundsF_ge s _) (Nat.le_trans (takeF_ge s 126 _) (boundsF_ge s _))
theorem restF_le {s : ByteArray} {st : St} (h : st.pos ≤ s.size) : (restF s st).2.pos ≤ s.size :=
  boundsF_le (takeF_le (by omega) (boundsF_le (takeF_le (by omega) h)))

/-- What stands behind a step of a plate. -/
def afterF (s : ByteArray) (st : St) (acc : List Stp) : St × List Stp :=
  if st.bad = true then (st, acc)
  else if byteAt s st.pos = 44 then
    let r := boundsF s ⟨st.pos + 1, false⟩
    afterF s r.2 (acc ++ [⟨r.1.lo, r.1.hi, false, 0, 0⟩])
  else if byteAt s st.pos = 126 then
    let r := restF s st
    afterF s r.2 (acc ++ [r.1])
  else (st, acc)
termination_by s.size - st.pos
decreasing_by
  · rename_i hb _
    have h1 := byteAt_in (s := s) (i := st.pos) (by omega)
    have h2 := boundsF_ge s ⟨st.pos + 1, false⟩
    simp only at h2
    omega
  · rename_i hb _ h126
    have h1 := byteAt_in (s := s) (i := st.pos) (by omega)
    have h2 := restF_ge s st
    rw [takeF_yes (by simpa using hb) h126] at h2
    simp only at h2
    omega

theorem afterF_bad {s : ByteArray} {st : St} {acc : List Stp} (h : st.bad = true) : afterF s st acc = (st, acc) := by rw [afterF, if_pos h]
theorem afterF_comma {s : ByteArray} {st : St} {acc : List Stp} (h : st.bad = false) (e : byteAt s st.pos = 44) :
    afterF s st acc = afterF s (boundsF s ⟨st.pos + 1, false⟩).2 (acc ++ [⟨(boundsF s ⟨st.pos + 1, false⟩).1.lo, (boundsF s ⟨st.pos + 1, false⟩).1.hi, false, 0, 0⟩]) := by
  rw [afterF, if_neg (by simp [h]), if_pos e]
theorem afterF_rest {s : ByteArray} {st : St} {acc : List Stp} (h : st.bad = false) (e : byteAt s st.pos = 126) :
    afterF s st acc = afterF s (restF s st).2 (acc ++ [(restF s st).1]) := by
  rw [afterF, if_neg (by simp [h]), if_neg (by omega), if_pos e]
theorem afterF_stop {s : ByteArray} {st : St} {acc : List Stp} (e : byteAt s st.pos ≠ 44) (e2 : byteAt s st.pos ≠ 126) : afterF s st acc = (st, acc) := by
  rw [afterF]; simp [e, e2]

theorem afterF_ge (s : ByteArray) (st : St) (acc : List Stp) : st.pos ≤ (afterF s st acc).1.pos := by
  induction st, acc using afterF.induct s with
  | case1 st acc h => rw [afterF_bad h]; simp
  | case2 st acc h e r ih =>
    rw [afterF_comma (by simpa using h) e]
    have := boundsF_ge s ⟨st.pos + 1, false⟩
    simp only at this
    exact Nat.le_trans (show st.pos ≤ (boundsF s ⟨st.pos + 1, false⟩).2.pos by omega) ih
  | case3 st acc h e e2 r ih =>
    rw [afterF_rest (by simpa using h) e2]
    have := restF_ge s st
    have h3 := takeF_ge s 126 st
    exact Nat.le_trans (show st.pos ≤ (restF s st).2.pos by omega) ih
  | case4 st acc h e e2 => rw [afterF_stop e e2]; simp

theorem afterF_le {s : ByteArray} {st : St} {acc : List Stp} (h : st.pos ≤ s.size) : (afterF s st acc).1.pos ≤ s.size := by
  induction st, acc using afterF.induct s with
  | case1 st acc h1 => rw [afterF_bad h1]; exact h
  | case2 st acc h1 e r ih =>
    rw [afterF_comma (by simpa using h1) e]
    have := byteAt_in (s := s) (i := st.pos) (by omega)
    exact ih (boundsF_le (by show st.pos + 1 ≤ _; omega))
  | case3 st acc h1 e e2 r ih =>
    rw [afterF_rest (by simpa using h1) e2]
    exact ih (restF_le h)
  | case4 st acc h1 e e2 => rw [afterF_stop e e2]; exact h

/-- A plate's letter. -/
def letterF (s : ByteArray) (n : Nat) (st : St) : St := if n < 26 then takeF s (97 + n) st else ⟨st.pos, true⟩

theorem letterF_ge (s : ByteArray) (n : Nat) (st : St) : st.pos ≤ (letterF s n st).pos := by unfold letterF; split; exact takeF_ge _ _ _; simp
theorem letterF_le {s : ByteArray} {n : Nat} {st : St} (h : st.pos ≤ s.size) : (letterF s n st).pos ≤ s.size := by
  unfold letterF; split
  · exact takeF_le (by omega) h
  · exact h
theorem letterF_bad {s : ByteArray} {n : Nat} {st : St} (h : st.bad = true) : letterF s n st = st := by
  unfold letterF; split
  · exact takeF_bad h
  · cases st; simp_all

/-- What stands ahead of a plate's first step. -/
def openF (s : ByteArray) (n : Nat) (st : St) : St := takeF s 61 (letterF s n (takeF s 59 st))
/-- A plate: its head, its first step, the rest of it. -/
def plateF (s : ByteArray) (n : Nat) (st : St) : St × List Stp :=
  afterF s (boundsF s (openF s n st)).2 [⟨(boundsF s (openF s n st)).1.lo, (boundsF s (openF s n st)).1.hi, false, 0, 0⟩]

theorem openF_bad {s : ByteArray} {n : Nat} {st : St} (h : st.bad = true) : openF s n st = st := by
  unfold openF; rw [takeF_bad h, letterF_bad h, takeF_bad h]
theorem openF_le {s : ByteArray} {n : Nat} {st : St} (h : st.pos ≤ s.size) : (openF s n st).pos ≤ s.size := takeF_le (by omega) (letterF_le (takeF_le (by omega) h))
theorem openF_ge (s : ByteArray) (n : Nat) (st : St) : (takeF s 59 st).pos ≤ (openF s n st).pos := Nat.le_trans (letterF_ge _ _ _) (takeF_ge _ _ _)
theorem plateF_bad {s : ByteArray} {n : Nat} {st : St} (h : st.bad = true) : (plateF s n st).1 = st := by
  unfold plateF
  rw [openF_bad h, boundsF_bad h, afterF_bad h]
theorem plateF_le {s : ByteArray} {n : Nat} {st : St} (h : st.pos ≤ s.size) : (plateF s n st).1.pos ≤ s.size := afterF_le (boundsF_le (openF_le h))
theorem plateF_ge (s : ByteArray) (n : Nat) (st : St) : (takeF s 59 st).pos ≤ (plateF s n st).1.pos :=
  Nat.le_trans (openF_ge s n st) (Nat.le_trans (boundsF_ge s _) (afterF_ge s _ _))
theorem plateF_gt {s : ByteArray} {n : Nat} {st : St} (h : (plateF s n st).1.bad = false) : st.pos < (plateF s n st).1.pos := by
  have hg := plateF_ge s n st
  cases hb : (takeF s 59 st).bad
  · obtain ⟨_, _, e⟩ := takeF_good hb
    rw [e] at hg; simp only at hg; omega
  · exfalso
    have e1 : openF s n st = takeF s 59 st := by
      unfold openF; rw [letterF_bad hb, takeF_bad hb]
    unfold plateF at h
    rw [e1, boundsF_bad hb, afterF_bad hb] at h
    simp only at h
    rw [hb] at h; cases h

/-- The plates, one behind the other. -/
def platesF (s : ByteArray) (st : St) (acc : List (List Stp)) : St × List (List Stp) :=
  if _h : (plateF s acc.length st).1.bad = true then ((plateF s acc.length st).1, acc)
  else if s.size ≤ (plateF s acc.length st).1.pos then ((plateF s acc.length st).1, acc ++ [(plateF s acc.length st).2])
  else platesF s (plateF s acc.length st).1 (acc ++ [(plateF s acc.length st).2])
termination_by s.size - st.pos
decreasing_by
  have := plateF_gt (s := s) (n := acc.length) (st := st) (by simpa using _h)
  omega

theorem platesF_bad {s : ByteArray} {st : St} {acc : List (List Stp)} (h : (plateF s acc.length st).1.bad = true) : platesF s st acc = ((plateF s acc.length st).1, acc) := by
  rw [platesF, dif_pos h]
theorem platesF_end {s : ByteArray} {st : St} {acc : List (List Stp)} (h : (plateF s acc.length st).1.bad = false) (e : s.size ≤ (plateF s acc.length st).1.pos) :
    platesF s st acc = ((plateF s acc.length st).1, acc ++ [(plateF s acc.length st).2]) := by
  rw [platesF, dif_neg (by simp [h]), if_pos e]
theorem platesF_more {s : ByteArray} {st : St} {acc : List (List Stp)} (h : (plateF s acc.length st).1.bad = false) (e : (plateF s acc.length st).1.pos < s.size) :
    platesF s st acc = platesF s (plateF s acc.length st).1 (acc ++ [(plateF s acc.length st).2]) := by
  rw [platesF, dif_neg (by simp [h]), if_neg (by omega)]

/-- The head of a protocol: J, K, D. -/
def headJ (s : ByteArray) : Nat × St := numF s 1 (takeF s 106 ⟨0, false⟩)
def headK (s : ByteArray) : Nat × St := numF s 1 (takeF s 107 (headJ s).2)
def headD (s : ByteArray) : Nat × St := numF s 4 (takeF s 100 (headK s).2)

theorem headD_le (s : ByteArray) : (headD s).2.pos ≤ s.size :=
  numF_le (takeF_le (by omega) (numF_le (takeF_le (by omega) (numF_le (takeF_le (by omega) (Nat.zero_le _))))))

def protF (s : ByteArray) : St × List (List Stp) := platesF s (headD s).2 []

/-- Is a step wrong? -/
def wrongB (k : Nat) (x : Stp) : Bool := x.lo == 0 || decide (x.hi < x.lo) || (x.rest && (k == 0 || decide (x.mx < x.mn)))

def firstWrong (k : Nat) (ps : List (List Stp)) : Option Nat := ps.flatten.findIdx? (wrongB k)
def manyB (ps : List (List Stp)) : Bool := ps.any (fun p => decide (5 < p.length)) || decide (4 < ps.length) || decide (9 < ps.flatten.length)

/-- P3: the error and the place. -/
def verdict (k : Nat) (ps : List (List Stp)) : Nat × Nat :=
  match firstWrong k ps with
  | some i => (3, i)
  | none => if manyB ps then (4, 0) else (0, 0)
def checkF (s : ByteArray) : Nat × Nat :=
  if 120 < s.size then (1, 0) else if (protF s).1.bad = true then (2, (protF s).1.pos) else verdict (headK s).1 (protF s).2

end Hx
end Go.Proofs.YtppcnlkhdgmaiaaDoor
namespace Go.Proofs.YtppcnlkhdgmaiaaDoor
open Go.RowKit

theorem hide {p : Prop} (h : p) : Hid p := h
theorem unhide {p : Prop} (h : Hid p) : p := h

/-- A reader's block: the text, how far it is read, whether it has failed. -/
def Rd (T : TypeId) (s : ByteArray) (b : Nat) (st : Hx.St) (w : World) : Prop := w.heap[b]? = some (.cells #[.string s, .int .i64 (st.pos : Int), .bool st.bad] T (0, 0))

theorem Rd.c0 {T s b st w} (h : Rd T s b st w) : w.cell? ⟨b, 0, none⟩ = some (.string s) := by
  have h : w.heap[b]? = _ := h
  simp [World.cell?, h]
theorem Rd.c1 {T s b st w} (h : Rd T s b st w) : w.cell? ⟨b, 1, none⟩ = some (.int .i64 (st.pos : Int)) := by
  have h : w.heap[b]? = _ := h
  simp [World.cell?, h]
theorem Rd.c2 {T s b st w} (h : Rd T s b st w) : w.cell? ⟨b, 2, none⟩ = some (.bool st.bad) := by
  have h : w.heap[b]? = _ := h
  simp [World.cell?, h]
theorem Rd.fz {T s b st w} (h : Rd T s b st w) (o : Nat) : w.frozen? ⟨b, o, none⟩ = false := by
  have h : w.heap[b]? = _ := h
  simp [World.frozen?, h]

set_option maxHeartbeats 400000 in
theorem ended_any (s : ByteArray) (b : Nat) (st : Hx.St) (w : World) (_hs : s.size ≤ 1000) (_hp : st.pos ≤ s.size) (hr : Rd 147 s b st w) :
    Calls Tryd.prog 62 #[.pointer (some ⟨b, 0, none⟩)] w fun e w' => e = .returned (.bool (decide (s.size ≤ st.pos))) ∧ ∃ n, w' = w.drewN n := by
  have c0 := hr.c0
  have c1 := hr.c1
  clear hr
  go_enter Tryd.func62, Tryd.ntmps62
  go_wp2
  go_quiet (fail)
  go_wp2
  go_ret
  exact ⟨by simp, _, rfl⟩

theorem ended_yes (s : ByteArray) (b : Nat) (st : Hx.St) (w : World) (hs : s.size ≤ 1000) (hp : st.pos ≤ s.size) (h : s.size ≤ st.pos) (hr : Rd 147 s b st w) :
    Calls Tryd.prog 62 #[.pointer (some ⟨b, 0, none⟩)] w fun e w' => e = .returned (.bool true) ∧ ∃ n, w' = w.drewN n :=
  (ended_any s b st w hs hp hr).mono fun _ _ ⟨he, hw⟩ => ⟨by rw [he]; simp [h], hw⟩
theorem ended_no (s : ByteArray) (b : Nat) (st : Hx.St) (w : World) (hs : s.size ≤ 1000) (hp : st.pos ≤ s.size) (h : st.pos < s.size) (hr : Rd 147 s b st w) :
    Calls Tryd.prog 62 #[.pointer (some ⟨b, 0, none⟩)] w fun e w' => e = .returned (.bool false) ∧ ∃ n, w' = w.drewN n :=
  (ended_any s b st w hs hp hr).mono fun _ _ ⟨he, hw⟩ => ⟨by rw [he]; simp; omega, hw⟩

theorem Rd.drewN {T s b st w} (h : Rd T s b st w) (n : Nat) : Rd T s b st (w.drewN n) := h

/-- The table of bytes, as it lies. -/
def Tab (w : World) : Prop := ∀ i : Nat, i < 128 → w.cell? ⟨1, i, none⟩ = some (.int .u8 (Hx.kindOf i : Int))

theorem ret_int {k : IntKind} {a b : Int} (h : a = b) : Ending.returned (.int k a) = .returned (.int k b) := by rw [h]

set_option maxHeartbeats 400000 in
theorem kind_any (s : ByteArray) (b : Nat) (st : Hx.St) (w : World) (_hs : s.size ≤ 1000) (hp : st.pos ≤ s.size) (ht : Tab w) (hr : Rd 147 s b st w) :
    Calls Tryd.prog 80 #[.pointer (some ⟨b, 0, none⟩)] w fun e w' => e = .returned (.int .u8 (Hx.kindOf (Hx.byteAt s st.pos) : Int)) ∧ ∃ n, w' = w.drewN n := by
  have c0 := hr.c0
  have c1 := hr.c1
  by_cases hlt : st.pos < s.size
  · have hlt' : Hid (st.pos < s.size) := hlt
    have hb : Hx.byteAt s st.pos = (s[st.pos]'hlt).toNat := Hx.byteAt_lt hlt
    have HB := (show Hid _ from hb)
    have HR := (show Hid _ from hr)
    by_cases h8 : 128 ≤ ((s[st.pos]'hlt).toNat : Int)
    · clear hb hr
      go_enter Tryd.func80, Tryd.ntmps80
      go_wp2
      go_quiet ((go_at_call 62; refine Calls.quiet_of (ended_no s b st _ _hs hp hlt' ?_); exact (Rd.drewN (Hid.out HR) _)))
      go_wp2
      go_ret
      exact ⟨ret_int (by rw [HB.out, Hx.kindOf_big (by omega)]; rfl), _, rfl⟩
    · have hd8 : decide (128 ≤ ((s[st.pos]'hlt).toNat : Int)) = false := by simp; omega
      have hc := ht (s[st.pos]'hlt).toNat (by omega)
      clear hb hr
      go_enter Tryd.func80, Tryd.ntmps80
      go_wp2
      go_quiet ((go_at_call 62; refine Calls.quiet_of (ended_no s b st _ _hs hp hlt' ?_); exact (Rd.drewN (Hid.out HR) _)))
      go_wp2
      go_quiet (fail)
      go_wp2
      go_ret
      exact ⟨ret_int (by rw [HB.out]), _, World.drewN_drewN ..⟩
  · have hge : Hid (s.size ≤ st.pos) := show _ ≤ _ by omega
    have HR := (show Hid _ from hr)
    clear hr
    go_enter Tryd.func80, Tryd.ntmps80
    go_wp2
    go_quiet ((go_at_call 62; refine Calls.quiet_of (ended_yes s b st _ _hs hp hge ?_); exact (Rd.drewN (Hid.out HR) _)))
    go_wp2
    go_ret
    exact ⟨ret_int (by rw [Hx.byteAt_ge (by omega), Hx.kindOf_big (by omega)]; rfl), _, rfl⟩

theorem Rd.set1 {T s b st w} (h : Rd T s b st w) (n : Nat) : Rd T s b ⟨n, st.bad⟩ (w.setCell ⟨b, 1, none⟩ (.int .i64 (n : Int))) := by
  have h : w.heap[b]? = _ := h
  simp [Rd, World.setCell, Array.getElem?_modify, h]
theorem Rd.set2 {T s b st w} (h : Rd T s b st w) (f : Bool) : Rd T s b ⟨st.pos, f⟩ (w.setCell ⟨b, 2, none⟩ (.bool f)) := by
  have h : w.heap[b]? = _ := h
  simp [Rd, World.setCell, Array.getElem?_modify, h]
theorem grown_set (w : World) (b o : Nat) (v : Value) : w.grownBy (w.setCell ⟨b, o, none⟩ v) (some b) :=
  ⟨rfl, rfl, rfl, by simp [World.setCell], fun k _ hne => Below.heap_setCell _ _ _ _ (fun e => hne (by rw [e]))⟩
theorem grown_drewN (w : World) (n : Nat) (row : Option Nat) : w.grownBy (w.drewN n) row := ⟨rfl, rfl, rfl, Nat.le_refl _, fun _ _ _ => rfl⟩
theorem grown_trans {a b c : World} {row : Option Nat} (h : a.grownBy b row) (k : b.grownBy c row) : a.grownBy c row :=
  ⟨k.os.trans h.os, k.tape.trans h.tape, k.output.trans h.output, Nat.le_trans h.size k.size, fun i hi hne => (k.block i (Nat.lt_of_lt_of_le hi h.size) hne).trans (h.block i hi hne)⟩

set_option maxHeartbeats 400000 in
theorem take_any (s : ByteArray) (b : Nat) (st : Hx.St) (c : Int) (cn : Nat) (w : World) (hs : s.size ≤ 1000) (hp : st.pos ≤ s.size) (hc : c = (cn : Int)) (hcn : cn < 256) (hr : Rd 147 s b st w) :
    Calls Tryd.prog 61 #[.pointer (some ⟨b, 0, none⟩), .int .u8 c] w fun e w' => e = .returned (.tuple #[]) ∧ Rd 147 s b (Hx.takeF s cn st) w' ∧ w.grownBy w' (some b) := by
  have c0 := hr.c0
  have c1 := hr.c1
  have c2 := hr.c2
  have f1 := hr.fz 1
  have f2 := hr.fz 2
  have HC := (show Hid (c = (cn : Int)) from hc)
  have HR := (show Hid (Rd 147 s b st w) from hr)
  clear hc hr
  obtain ⟨pos, bad⟩ := st
  simp only at c1 c2 hp
  cases bad
  · by_cases hlt : pos < s.size
    · have hlt' : Hid (pos < s.size) := hlt
      by_cases he : c = ((s[pos]'hlt).toNat : Int)
      · have hne : (((s[pos]'hlt).toNat : Int) != c) = false := by simp [he]
        have HE := (show Hid (c = ((s[pos]'hlt).toNat : Int)) from he)
        clear he
        go_enter Tryd.func61, Tryd.ntmps61
        go_wp2_with fail
        go_quiet ((go_at_call 62; refine Calls.quiet_of (ended_no s b ⟨pos, false⟩ _ hs hp hlt' ?_); exact (Rd.drewN (Hid.out HR) _)))
        go_wp2
        go_end0
        refine ⟨rfl, ?_, grown_trans (grown_drewN _ _ _) (grown_set _ _ _ _)⟩
        rw [Hx.takeF_yes rfl (by show Hx.byteAt s pos = cn; rw [Hx.byteAt_lt hlt]; have := HC.out; have := HE.out; omega)]
        exact Rd.set1 (Rd.drewN HR.out _) (pos + 1)
      · have hne : (((s[pos]'hlt).toNat : Int) != c) = true := by simp; exact fun h => he h.symm
        have HE := (show Hid (¬ c = ((s[pos]'hlt).toNat : Int)) from he)
        clear he
        go_enter Tryd.func61, Tryd.ntmps61
        go_wp2_with fail
        go_quiet ((go_at_call 62; refine Calls.quiet_of (ended_no s b ⟨pos, false⟩ _ hs hp hlt' ?_); exact (Rd.drewN (Hid.out HR) _)))
        go_wp2
        ((try simp only [Exit.inBlock, Exit.then]); refine bodyPost_ret (results_none rfl _ _ _) rfl ?_)
        refine ⟨rfl, ?_, grown_trans (grown_drewN _ _ _) (grown_set _ _ _ _)⟩
        rw [Hx.takeF_no (by show Hx.byteAt s pos ≠ cn; rw [Hx.byteAt_lt hlt]; have := HC.out; have := HE.out; omega)]
        exact Rd.set2 (Rd.drewN HR.out _) true
    · have hge : Hid (s.size ≤ pos) := show _ ≤ _ by omega
      go_enter Tryd.func61, Tryd.ntmps61
      go_wp2_with fail
      go_quiet ((go_at_call 62; refine Calls.quiet_of (ended_yes s b ⟨pos, false⟩ _ hs hp hge ?_); exact (Rd.drewN (Hid.out HR) _)))
      go_wp2
      ((try simp only [Exit.inBlock, Exit.then]); refine bodyPost_ret (results_none rfl _ _ _) rfl ?_)
      refine ⟨rfl, ?_, grown_trans (grown_drewN _ _ _) (grown_set _ _ _ _)⟩
      rw [Hx.takeF_no (by show Hx.byteAt s pos ≠ cn; rw [Hx.byteAt_ge hge]; omega)]
      exact Rd.set2 (Rd.drewN HR.out _) true
  · go_enter Tryd.func61, Tryd.ntmps61
    go_wp2_with fail
    go_quiet (fail)
    go_wp2
    ((try simp only [Exit.inBlock, Exit.then]); refine bodyPost_ret (results_none rfl _ _ _) rfl ?_)
    refine ⟨rfl, ?_, grown_trans (grown_drewN _ _ _) (grown_set _ _ _ _)⟩
    rw [Hx.takeF_bad rfl]
    exact Rd.set2 (Rd.drewN HR.out _) true

end Go.Proofs.YtppcnlkhdgmaiaaDoor
namespace Go.Proofs.YtppcnlkhdgmaiaaDoor
open Go.RowKit

theorem kind_val (s : ByteArray) (b : Nat) (st : Hx.St) (kv : Int) (w : World) (hs : s.size ≤ 1000) (hp : st.pos ≤ s.size) (hk : (Hx.kindOf (Hx.byteAt s st.pos) : Int) = kv) (ht : Tab w) (hr : Rd 147 s b st w) :
    Calls Tryd.prog 80 #[.pointer (some ⟨b, 0, none⟩)] w fun e w' => e = .returned (.int .u8 kv) ∧ ∃ n, w' = w.drewN n :=
  (kind_any s b st w hs hp ht hr).mono fun _ _ ⟨he, hw⟩ => ⟨by rw [he, hk], hw⟩

theorem Rd.lt {T s b st w} (h : Rd T s b st w) : b < w.heap.size := by
  have h : w.heap[b]? = _ := h
  by_cases g : b < w.heap.size
  · exact g
  · rw [Array.getElem?_eq_none (by omega)] at h; cases h
theorem Tab.drewN {w : World} (h : Tab w) (n : Nat) : Tab (w.drewN n) := h
theorem Tab.grown {w w' : World} {b : Nat} (h : Tab w) (hb : 1 < b) (hg : w.grownBy w' (some b)) : Tab w' := fun i hi => hg.cell (h i hi) (by simp; omega)

set_option maxHeartbeats 1000000 in
theorem digits_any (s : ByteArray) (b : Nat) (p0 : Nat) (mi : Int) (most : Nat) (w : World) (hs : s.size ≤ 1000) (hp : p0 ≤ s.size) (hm : most ≤ 5) (hmi : mi = (most : Int)) (hb : 1 < b) (ht : Tab w) (hr : Rd 147 s b ⟨p0, false⟩ w) :
    Calls Tryd.prog 84 #[.pointer (some ⟨b, 0, none⟩), .int .i64 mi] w fun e w' => e = .returned (.int .i64 ((Hx.digF s most p0 0).1 : Int)) ∧ Rd 147 s b ⟨(Hx.digF s most p0 0).2, false⟩ w' ∧ w.grownBy w' (some b) := by
  subst hmi
  have HT : Hid (Tab w) := ht
  have HR : Hid (Rd 147 s b ⟨p0, false⟩ w) := hr
  clear ht hr
  go_enter Tryd.func84, Tryd.ntmps84
  go_wp2_with fail
  go_loopw [5, 8] (fun v i wr => ∃ k m pos : Nat, k ≤ most ∧ i = .int .i64 (k : Int) ∧ v = .int .i64 (m : Int) ∧ m < 10 ^ k ∧ pos ≤ s.size ∧ Rd 147 s b ⟨pos, false⟩ wr ∧ w.grownBy wr (some b) ∧ Hx.digF s (most - k) pos m = Hx.digF s most p0 0) (fun _ i _ => most - (intOf i).toNat)
  case atStart => exact ⟨0, 0, p0, Nat.zero_le _, rfl, rfl, by decide, hp, HR.out, World.grownBy.refl _ _, rfl⟩
  case round =>
    obtain ⟨k, m, pos, hk, rfl, rfl, hmk, hpos, hrd, hgr, hd⟩ := hrel
    have HRD : Hid (Rd 147 s b ⟨pos, false⟩ wr) := hrd
    have HG : Hid (w.grownBy wr (some b)) := hgr
    have HD : Hid (Hx.digF s (most - k) pos m = Hx.digF s most p0 0) := hd
    have HTR : Hid (Tab wr) := HT.out.grown hb hgr
    have HM : Hid (m < 10 ^ k) := hmk
    have hm4 : m < 100000 := Nat.lt_of_lt_of_le hmk (Nat.le_trans (Nat.pow_le_pow_right (by omega) (show k ≤ 5 by omega)) (by decide))
    clear hd hmk hrd hgr
    by_cases hlt : k < most
    · by_cases hdg : 48 ≤ Hx.byteAt s pos ∧ Hx.byteAt s pos ≤ 57
      · have hin : pos < s.size := Hx.byteAt_in (by omega)
        have hb1 : Hx.byteAt s pos = (s[pos]'hin).toNat := Hx.byteAt_lt hin
        have h48 : (48 : Int) ≤ ((s[pos]'hin).toNat : Int) := by omega
        have h57 : ((s[pos]'hin).toNat : Int) ≤ 57 := by omega
        have HB1 : Hid (Hx.byteAt s pos = (s[pos]'hin).toNat) := hb1
        have HDG : Hid (48 ≤ Hx.byteAt s pos ∧ Hx.byteAt s pos ≤ 57) := hdg
        obtain ⟨kv, hkv, hkv2⟩ : ∃ kv : Int, (Hx.kindOf (Hx.byteAt s pos) : Int) = kv ∧ (kv = 1 ∨ kv = 2) := by
          refine ⟨_, rfl, ?_⟩
          by_cases e : Hx.byteAt s pos = 48
          · exact Or.inl (by rw [(Hx.kindOf_one _).2 e]; rfl)
          · exact Or.inr (by rw [(Hx.kindOf_two _).2 (by omega)]; rfl)
        have HKV : Hid ((Hx.kindOf (Hx.byteAt s pos) : Int) = kv) := hkv
        have c0 := HRD.out.c0
        have c1 := HRD.out.c1
        have f1 := HRD.out.fz 1
        simp only at c1
        clear hb1 hkv hdg
        have hfin : Hid (Hx.digF s (most - (k + 1)) (pos + 1) (m * 10 + (Hx.byteAt s pos - 48)) = Hx.digF s most p0 0) := by
          have e : most - k = (most - (k + 1)) + 1 := by omega
          have := HD.out
          rw [e, Hx.digF_step HDG.out] at this
          exact this
        have hm10 : Hid (m * 10 + (Hx.byteAt s pos - 48) < 10 ^ (k + 1)) := by
          have := HM.out
          have := HDG.out
          show _ < _
          rw [Nat.pow_succ]; omega
        have hval : Hid (((m * 10 + (Hx.byteAt s pos - 48) : Nat) : Int) = (m : Int) * 10 + (((s[pos]'hin).toNat : Int) - 48)) := by
          have := HB1.out
          show _ = _
          omega
        rcases hkv2 with rfl | rfl
        all_goals
          go_wp2_with (go_at_call 80; refine (kind_val s b ⟨pos, false⟩ _ _ hs hpos HKV.out HTR.out HRD.out).mono ?_; rintro e w' ⟨rfl, n1, rfl⟩)
          go_quiet (fail)
          go_wp2_with fail
          go_roundw
          case rel => exact ⟨k + 1, m * 10 + (Hx.byteAt s pos - 48), pos + 1, by omega, by go_num, by rw [hval.out], hm10.out, by omega, Rd.set1 (Rd.drewN HRD.out _) (pos + 1), grown_trans HG.out (grown_trans (grown_drewN _ _ _) (grown_set _ _ _ _)), hfin.out⟩
          case measure => simp [intOf]; omega
      · obtain ⟨kv, hkv, hk1, hk2⟩ : ∃ kv : Int, (Hx.kindOf (Hx.byteAt s pos) : Int) = kv ∧ (kv != 1) = true ∧ (kv != 2) = true := by
          refine ⟨_, rfl, ?_, ?_⟩
          · rw [bne_iff_ne]; intro e; have := (Hx.kindOf_one (Hx.byteAt s pos)).1 (by omega); omega
          · rw [bne_iff_ne]; intro e; have := (Hx.kindOf_two (Hx.byteAt s pos)).1 (by omega); omega
        have HKV : Hid ((Hx.kindOf (Hx.byteAt s pos) : Int) = kv) := hkv
        have HDG : Hid (¬ (48 ≤ Hx.byteAt s pos ∧ Hx.byteAt s pos ≤ 57)) := hdg
        clear hkv hdg
        have hfin : Hid ((m, pos) = Hx.digF s most p0 0) := (Hx.digF_stop HDG.out).symm.trans HD.out
        go_wp2_with (go_at_call 80; refine (kind_val s b ⟨pos, false⟩ _ _ hs hpos HKV.out HTR.out HRD.out).mono ?_; rintro e w' ⟨rfl, n1, rfl⟩)
        go_returns
        exact ⟨ret_int (by rw [← hfin.out]), by rw [← hfin.out]; exact HRD.out, grown_trans HG.out (grown_drewN _ _ _)⟩
    · have hfin : Hid ((m, pos) = Hx.digF s most p0 0) := by
        have := HD.out
        rw [show most - k = 0 by omega] at this
        exact this
      go_wp2_with fail
      go_returns
      exact ⟨ret_int (by rw [← hfin.out]), by rw [← hfin.out]; exact HRD.out, HG.out⟩

set_option maxHeartbeats 1000000 in
theorem number_any (s : ByteArray) (b : Nat) (st : Hx.St) (mi : Int) (most : Nat) (w : World) (hs : s.size ≤ 1000) (hp : st.pos ≤ s.size) (hm : most ≤ 5) (hmi : mi = (most : Int)) (hb : 1 < b) (ht : Tab w) (hr : Rd 147 s b st w) :
    Calls Tryd.prog 65 #[.pointer (some ⟨b, 0, none⟩), .int .i64 mi] w fun e w' => e = .returned (.int .i64 ((Hx.numF s most st).1 : Int)) ∧ Rd 147 s b (Hx.numF s most st).2 w' ∧ w.grownBy w' (some b) := by
  have HT : Hid (Tab w) := ht
  have HR : Hid (Rd 147 s b st w) := hr
  have HMI : Hid (mi = (most : Int)) := hmi
  have c1 := hr.c1
  have c2 := hr.c2
  have f1 := hr.fz 1
  have f2 := hr.fz 2
  clear ht hr hmi
  obtain ⟨pos, bad⟩ := st
  simp only at c1 c2 hp
  cases bad
  · by_cases h1 : Hx.byteAt s pos = 48
    · have hk : Hid ((Hx.kindOf (Hx.byteAt s pos) : Int) = 1) := by show _ = _; rw [(Hx.kindOf_one _).2 h1]; rfl
      have hfin : Hid (Hx.numF s most ⟨pos, false⟩ = (0, ⟨pos + 1, false⟩)) := Hx.numF_zero rfl h1
      clear h1
      go_enter Tryd.func65, Tryd.ntmps65
      go_wp2_with (go_at_call 80; refine (kind_val s b ⟨pos, false⟩ _ _ hs hp hk.out HT.out HR.out).mono ?_; rintro e w' ⟨rfl, n1, rfl⟩)
      go_returns
      rw [hfin.out]
      exact ⟨rfl, Rd.set1 (Rd.drewN HR.out _) (pos + 1), grown_trans (grown_drewN _ _ _) (grown_set _ _ _ _)⟩
    · by_cases h2 : 49 ≤ Hx.byteAt s pos ∧ Hx.byteAt s pos ≤ 57
      · have hk : Hid ((Hx.kindOf (Hx.byteAt s pos) : Int) = 2) := by show _ = _; rw [(Hx.kindOf_two _).2 h2]; rfl
        have hfin : Hid (Hx.numF s most ⟨pos, false⟩ = ((Hx.digF s most pos 0).1, ⟨(Hx.digF s most pos 0).2, false⟩)) := Hx.numF_dig rfl h2
        clear h1 h2
        go_enter Tryd.func65, Tryd.ntmps65
        go_wp2_with (first | (go_at_call 80; refine (kind_val s b ⟨pos, false⟩ _ _ hs hp hk.out HT.out HR.out).mono ?_; rintro e w' ⟨rfl, n1, rfl⟩) | (go_at_call 84; refine (digits_any s b pos _ most _ hs hp hm HMI.out hb (Tab.drewN HT.out _) (Rd.drewN HR.out _)).mono ?_; rintro e w' ⟨rfl, hr2, hg2⟩))
        go_returns
        rw [hfin.out]
        exact ⟨rfl, hr2, grown_trans (grown_drewN _ _ _) hg2⟩
      · obtain ⟨kv, hkv, hk1, hk2⟩ : ∃ kv : Int, (Hx.kindOf (Hx.byteAt s pos) : Int) = kv ∧ (kv == 1) = false ∧ (kv == 2) = false := by
          refine ⟨_, rfl, ?_, ?_⟩
          · rw [beq_eq_false_iff_ne]; intro e; exact h1 ((Hx.kindOf_one (Hx.byteAt s pos)).1 (by omega))
          · rw [beq_eq_false_iff_ne]; intro e; exact h2 ((Hx.kindOf_two (Hx.byteAt s pos)).1 (by omega))
        have HKV : Hid ((Hx.kindOf (Hx.byteAt s pos) : Int) = kv) := hkv
        have hfin : Hid (Hx.numF s most ⟨pos, false⟩ = (0, ⟨pos, true⟩)) := Hx.numF_no rfl (by show ¬ (48 ≤ Hx.byteAt s pos ∧ Hx.byteAt s pos ≤ 57); omega)
        clear h1 h2 hkv
        go_enter Tryd.func65, Tryd.ntmps65
        go_wp2_with (go_at_call 80; refine (kind_val s b ⟨pos, false⟩ _ _ hs hp HKV.out HT.out HR.out).mono ?_; rintro e w' ⟨rfl, n1, rfl⟩)
        go_returns
        rw [hfin.out]
        exact ⟨rfl, Rd.set2 (Rd.drewN HR.out _) true, grown_trans (grown_drewN _ _ _) (grown_set _ _ _ _)⟩
  · have hfin : Hid (Hx.numF s most ⟨pos, true⟩ = (0, ⟨pos, true⟩)) := Hx.numF_bad rfl
    go_enter Tryd.func65, Tryd.ntmps65
    go_wp2_with fail
    go_returns
    rw [hfin.out]
    exact ⟨rfl, HR.out, World.grownBy.refl _ _⟩

theorem Rd.kept {T s b st} {w w' : World} {row : Option Nat} (h : Rd T s b st w) (hg : w.grownBy w' row) (hne : some b ≠ row) : Rd T s b st w' := (hg.block b h.lt hne).trans h

set_option maxHeartbeats 1000000 in
theorem letter_any (s : ByteArray) (b : Nat) (st : Hx.St) (ni : Int) (n : Nat) (w : World) (hs : s.size ≤ 1000) (hp : st.pos ≤ s.size) (hn : n ≤ 120) (hni : ni = (n : Int)) (ht : Tab w) (hr : Rd 147 s b st w) :
    Calls Tryd.prog 85 #[.pointer (some ⟨b, 0, none⟩), .int .i64 ni] w fun e w' => e = .returned (.tuple #[]) ∧ Rd 147 s b (Hx.letterF s n st) w' ∧ w.grownBy w' (some b) := by
  have HT : Hid (Tab w) := ht
  have HR : Hid (Rd 147 s b st w) := hr
  subst hni
  have c2 := hr.c2
  have f2 := hr.fz 2
  clear ht hr
  by_cases h3 : 97 ≤ Hx.byteAt s st.pos ∧ Hx.byteAt s st.pos ≤ 122
  · have H3 : Hid (97 ≤ Hx.byteAt s st.pos ∧ Hx.byteAt s st.pos ≤ 122) := h3
    obtain ⟨kv, hkv, hkv2⟩ : ∃ kv : Int, (Hx.kindOf (Hx.byteAt s st.pos) : Int) = kv ∧ (kv = 3 ∨ kv = 4) := by
      refine ⟨_, rfl, ?_⟩
      by_cases e : Hx.byteAt s st.pos ≤ 100
      · exact Or.inl (by rw [(Hx.kindOf_three _).2 ⟨h3.1, e⟩]; rfl)
      · exact Or.inr (by rw [(Hx.kindOf_four _).2 (by omega)]; rfl)
    have HKV : Hid ((Hx.kindOf (Hx.byteAt s st.pos) : Int) = kv) := hkv
    clear h3 hkv
    have hfin : Hid (Hx.letterF s n st = Hx.takeF s (97 + n) st) := by
      show _ = _
      unfold Hx.letterF
      by_cases h26 : n < 26
      · rw [if_pos h26]
      · rw [if_neg h26, Hx.takeF_no (by have := H3.out; omega)]
    go_enter Tryd.func85, Tryd.ntmps85
    rcases hkv2 with rfl | rfl
    all_goals
      go_wp2_with (first | (go_at_call 80; refine (kind_val s b st _ _ hs hp HKV.out HT.out HR.out).mono ?_; rintro e w' ⟨rfl, n1, rfl⟩) | (go_at_call 61; refine (take_any s b st _ (97 + n) _ hs hp (by omega) (by omega) (Rd.drewN HR.out _)).mono ?_; rintro e w' ⟨rfl, hr2, hg2⟩))
      go_returns
      rw [hfin.out]
      exact ⟨rfl, hr2, grown_trans (grown_drewN _ _ _) hg2⟩
  · obtain ⟨kv, hkv, hk1, hk2⟩ : ∃ kv : Int, (Hx.kindOf (Hx.byteAt s st.pos) : Int) = kv ∧ (kv != 3) = true ∧ (kv != 4) = true := by
      refine ⟨_, rfl, ?_, ?_⟩
      · rw [bne_iff_ne]; intro e; have := (Hx.kindOf_three (Hx.byteAt s st.pos)).1 (by omega); omega
      · rw [bne_iff_ne]; intro e; have := (Hx.kindOf_four (Hx.byteAt s st.pos)).1 (by omega); omega
    have HKV : Hid ((Hx.kindOf (Hx.byteAt s st.pos) : Int) = kv) := hkv
    have hfin : Hid (Hx.letterF s n st = ⟨st.pos, true⟩) := by
      show _ = _
      unfold Hx.letterF
      by_cases h26 : n < 26
      · rw [if_pos h26, Hx.takeF_no (by intro e; exact h3 (by omega))]
      · rw [if_neg h26]
    clear h3 hkv
    go_enter Tryd.func85, Tryd.ntmps85
    go_wp2_with (go_at_call 80; refine (kind_val s b st _ _ hs hp HKV.out HT.out HR.out).mono ?_; rintro e w' ⟨rfl, n1, rfl⟩)
    go_returns
    rw [hfin.out]
    exact ⟨rfl, Rd.set2 (Rd.drewN HR.out _) true, grown_trans (grown_drewN _ _ _) (grown_set _ _ _ _)⟩

theorem up1 {n : Nat} (h : n ≤ 120) : n ≤ 1000 := by omega
theorem grown_alloc (w : World) (o : Obj) (row : Option Nat) : w.grownBy (w.alloc o) row := World.grownBy_alloc w o row
theorem Rd.alloc {T s b st w} (h : Rd T s b st w) (o : Obj) : Rd T s b st (w.alloc o) := h.kept (row := none) (grown_alloc w o none) (by simp)
theorem Tab.alloc {w : World} (h : Tab w) (o : Obj) : Tab (w.alloc o) := fun i hi => (grown_alloc w o none).cell (h i hi) (by simp)

theorem grown_set_new {w w' : World} {row : Option Nat} (h : w.grownBy w' row) {k : Nat} (hk : w.heap.size ≤ k) (o : Nat) (v : Value) : w.grownBy (w'.setCell ⟨k, o, none⟩ v) row :=
  ⟨h.os, h.tape, h.output, Nat.le_trans h.size (by simp [World.setCell]), fun i hi hne => (Below.heap_setCell _ _ _ _ (fun e => by have : i = k := e; omega)).trans (h.block i hi hne)⟩
theorem Rd.set_other {T s b st w} (h : Rd T s b st w) {k : Nat} (hk : k ≠ b) (o : Nat) (v : Value) : Rd T s b st (w.setCell ⟨k, o, none⟩ v) :=
  (Below.heap_setCell w ⟨k, o, none⟩ v b (fun e => hk e.symm)).trans h
theorem blk_new (w : World) (a : Array Value) (T : TypeId) : (w.alloc (.cells a T)).heap[w.heap.size]? = some (.cells a T (0, 0)) := by
  show (w.heap.push _)[_]? = _
  simp
theorem blk_cell {w : World} {k : Nat} {a : Array Value} {T : TypeId} (h : w.heap[k]? = some (.cells a T (0, 0))) (o : Nat) : w.cell? ⟨k, o, none⟩ = a[o]? := by simp [World.cell?, h]
theorem blk_free {w : World} {k : Nat} {a : Array Value} {T : TypeId} (h : w.heap[k]? = some (.cells a T (0, 0))) (o : Nat) : w.frozen? ⟨k, o, none⟩ = false := by simp [World.frozen?, h]
theorem blk_lt {w : World} {k : Nat} {o : Obj} (h : w.heap[k]? = some o) : k < w.heap.size := lt_of_block h
theorem blk_kept {w w' : World} {k : Nat} {o : Obj} {row : Option Nat} (h : w.heap[k]? = some o) (hg : w.grownBy w' row) (hne : some k ≠ row) : w'.heap[k]? = some o := (hg.block k (lt_of_block h) hne).trans h
theorem size_alloc_ (w : World) (o : Obj) : (w.alloc o).heap.size = w.heap.size + 1 := by simp

set_option maxHeartbeats 1000000 in
theorem bounds_any (s : ByteArray) (b : Nat) (st : Hx.St) (w : World) (hs : s.size ≤ 1000) (hp : st.pos ≤ s.size) (hb : 1 < b) (ht : Tab w) (hr : Rd 147 s b st w) :
    Calls Tryd.prog 86 #[.pointer (some ⟨b, 0, none⟩)] w fun e w' => e = .returned (.agg #[.int .i64 ((Hx.boundsF s st).1.lo : Int), .int .i64 ((Hx.boundsF s st).1.hi : Int)]) ∧ Rd 147 s b (Hx.boundsF s st).2 w' ∧ w.grownBy w' (some b) := by
  have HT : Hid (Tab w) := ht
  have HR : Hid (Rd 147 s b st w) := hr
  have HB : Hid (b < w.heap.size) := hr.lt
  clear ht hr
  go_enter Tryd.func86, Tryd.ntmps86
  go_wp2_with fail
  refine (number_any s b st _ 3 _ hs hp (by omega) rfl hb (Tab.alloc HT.out _) (Rd.alloc HR.out _)).mono ?_
  rintro e w1 ⟨rfl, hr1, hg1⟩
  have HR1 : Hid (Rd 147 s b (Hx.numF s 3 st).2 w1) := hr1
  have HT1 : Hid (Tab w1) := (Tab.alloc HT.out _).grown hb hg1
  have HB1 := hide (blk_kept (blk_new w #[.int .i64 0, .int .i64 0] 79) hg1 (by have := HB.out; simp; omega))
  have HG1 := hide (grown_trans (grown_alloc w _ _) hg1)
  clear hr1 hg1
  go_wp2_with fail
  refine (take_any s b _ _ 45 _ hs (Hx.numF_le hp) rfl (by omega) HR1.out).mono ?_
  rintro e w2 ⟨rfl, hr2, hg2⟩
  have HR2 : Hid (Rd 147 s b (Hx.takeF s 45 (Hx.numF s 3 st).2) w2) := hr2
  have HT2 : Hid (Tab w2) := HT1.out.grown hb hg2
  have HB2 := hide (blk_kept (unhide HB1) hg2 (by have := HB.out; simp; omega))
  have HG2 := hide (grown_trans (unhide HG1) hg2)
  clear hr2 hg2
  go_wp2_with fail
  refine (number_any s b _ _ 3 _ hs (Hx.takeF_le (by omega) (Hx.numF_le hp)) (by omega) rfl hb HT2.out HR2.out).mono ?_
  rintro e w3 ⟨rfl, hr3, hg3⟩
  have HB3 := blk_kept (unhide HB2) hg3 (by have := HB.out; simp; omega)
  have HG3 := hide (grown_trans (unhide HG2) hg3)
  have HR3 := hide hr3
  have c0 := blk_cell HB3 0
  have c1 := blk_cell HB3 1
  have f0 := blk_free HB3 0
  have f1 := blk_free HB3 1
  simp only [List.getElem?_toArray, List.getElem?_cons_zero, List.getElem?_cons_succ] at c0 c1
  clear hr3 hg3 HB3
  go_wp2_with fail
  refine bodyPost_ret (v := .agg #[.int .i64 ((Hx.boundsF s st).1.lo : Int), .int .i64 ((Hx.boundsF s st).1.hi : Int)]) (by simp [results, Tryd.results86, go_sem, c0, c1, Hx.boundsF]) rfl ?_
  exact ⟨rfl, Rd.set_other (Rd.set_other (unhide HR3) (by have := HB.out; omega) _ _) (by have := HB.out; omega) _ _, grown_set_new (grown_set_new (unhide HG3) (Nat.le_refl _) _ _) (Nat.le_refl _) _ _⟩

end Go.Proofs.YtppcnlkhdgmaiaaDoor
namespace Go.Proofs.YtppcnlkhdgmaiaaDoor
open Go.RowKit

/-- A step's five cells. -/
def stpCells (x : Hx.Stp) : List Value := [.int .i64 (x.lo : Int), .int .i64 (x.hi : Int), .bool x.rest, .int .i64 (x.mn : Int), .int .i64 (x.mx : Int)]

theorem grown_of_drew {w w' : World} {row : Option Nat} (h : w.drew.grownBy w' row) : w.grownBy w' row := ⟨h.os, h.tape, h.output, h.size, h.block⟩

theorem cells2 {w w' : World} {k b : Nat} {v0 v1 : Value} {T : TypeId} (h : Hid (w.heap[k]? = some (.cells #[v0, v1] T (0, 0)))) (hg : w.grownBy w' (some b)) (hne : k ≠ b) :
    w'.cell? ⟨k, 0, none⟩ = some v0 ∧ w'.cell? ⟨k, 1, none⟩ = some v1 := by
  have h2 := blk_kept (unhide h) hg (by simpa using hne)
  exact ⟨blk_cell h2 0, blk_cell h2 1⟩
theorem cells5 {w w' : World} {k b : Nat} {v0 v1 v2 v3 v4 : Value} {T : TypeId} (h : Hid (w.heap[k]? = some (.cells #[v0, v1, v2, v3, v4] T (0, 0)))) (hg : w.grownBy w' (some b)) (hne : k ≠ b) :
    (w'.cell? ⟨k, 0, none⟩ = some v0 ∧ w'.cell? ⟨k, 1, none⟩ = some v1 ∧ w'.cell? ⟨k, 2, none⟩ = some v2 ∧ w'.cell? ⟨k, 3, none⟩ = some v3 ∧ w'.cell? ⟨k, 4, none⟩ = some v4) ∧ ∀ o, w'.frozen? ⟨k, o, none⟩ = false := by
  have h2 := blk_kept (unhide h) hg (by simpa using hne)
  exact ⟨⟨blk_cell h2 0, blk_cell h2 1, blk_cell h2 2, blk_cell h2 3, blk_cell h2 4⟩, blk_free h2⟩

set_option maxHeartbeats 1000000 in
theorem rest_any (s : ByteArray) (b : Nat) (st : Hx.St) (w : World) (hs : s.size ≤ 120) (hp : st.pos ≤ s.size) (hb : 1 < b) (ht : Tab w) (hr : Rd 147 s b st w) :
    Calls Tryd.prog 87 #[.pointer (some ⟨b, 0, none⟩)] w fun e w' => e = .returned (.agg (stpCells (Hx.restF s st).1).toArray) ∧ Rd 147 s b (Hx.restF s st).2 w' ∧ w.grownBy w' (some b) := by
  have HT : Hid (Tab w) := ht
  have HR : Hid (Rd 147 s b st w) := hr
  have HB : Hid (b < w.heap.size) := hr.lt
  clear ht hr
  go_enter Tryd.func87, Tryd.ntmps87
  go_wp2_with fail
  refine (take_any s b st _ 126 _ (up1 hs) hp rfl (by omega) (Rd.alloc HR.out _)).mono ?_
  rintro e w1 ⟨rfl, hr1, hg1⟩
  have HR1 := hide hr1
  have HT1 : Hid (Tab w1) := (Tab.alloc HT.out _).grown hb hg1
  have HB1 := hide (blk_kept (blk_new w #[.int .i64 0, .int .i64 0, .bool false, .int .i64 0, .int .i64 0] 81) hg1 (by have := HB.out; simp; omega))
  have HG1 := hide (grown_trans (grown_alloc w _ _) hg1)
  clear hr1 hg1
  go_wp2_with fail
  refine (bounds_any s b _ _ (up1 hs) (Hx.takeF_le (by omega) hp) hb HT1.out (unhide HR1)).mono ?_
  rintro e w2 ⟨rfl, hr2, hg2⟩
  have HR2 := hide hr2
  have HT2 : Hid (Tab w2) := HT1.out.grown hb hg2
  have HB2 := hide (blk_kept (unhide HB1) hg2 (by have := HB.out; simp; omega))
  have HG2 := hide (grown_trans (unhide HG1) hg2)
  clear hr2 hg2
  go_wp2_with fail
  have HP2 : Hid ((Hx.boundsF s (Hx.takeF s 126 st)).2.pos ≤ s.size) := Hx.boundsF_le (Hx.takeF_le (by omega) hp)
  refine (take_any s b _ _ 126 _ (up1 hs) HP2.out rfl (by omega) (Rd.alloc (unhide HR2) _)).mono ?_
  rintro e w3 ⟨rfl, hr3, hg3⟩
  have HR3 := hide hr3
  have HT3 : Hid (Tab w3) := (Tab.alloc HT2.out _).grown hb hg3
  have HB3 := hide (blk_kept (blk_kept (unhide HB2) (grown_alloc w2 _ none) (by simp)) hg3 (by have := HB.out; simp; omega))
  have HB2' : Hid (b < w2.heap.size) := (unhide HR2).lt
  have HL3 := blk_kept (blk_new w2 #[.int .i64 ((Hx.boundsF s (Hx.takeF s 126 st)).1.lo : Int), .int .i64 ((Hx.boundsF s (Hx.takeF s 126 st)).1.hi : Int)] 79) hg3 (by have := HB2'.out; simp; omega)
  have HG3 := hide (grown_trans (unhide HG2) (grown_trans (grown_alloc w2 _ _) hg3))
  have c0 := blk_cell HL3 0
  have c1 := blk_cell HL3 1
  simp only [List.getElem?_toArray, List.getElem?_cons_zero, List.getElem?_cons_succ] at c0 c1
  have HL3' := hide HL3
  clear hr3 hg3 HL3
  have HP3 : Hid ((Hx.takeF s 126 (Hx.boundsF s (Hx.takeF s 126 st)).2).pos ≤ s.size) := Hx.takeF_le (by omega) HP2.out
  go_wp2_with fail
  go_region_with (go_at_call 86; refine (bounds_any s b (Hx.takeF s 126 (Hx.boundsF s (Hx.takeF s 126 st)).2) _ (up1 hs) HP3.out hb (by exact HT3.out) (by exact (unhide HR3))).mono ?_; rintro e w4 ⟨rfl, hr4, hg4⟩; have HR4 := hide hr4; have HG4 := hide (grown_of_drew hg4); clear hr4 hg4; obtain ⟨d0, d1⟩ := cells2 HL3' (unhide HG4) (by have := HB2'.out; omega); obtain ⟨⟨r0, r1, r2, r3, r4⟩, rf⟩ := cells5 HB3 (unhide HG4) (by have := HB.out; omega))
  all_goals
    go_wp2_with fail
    refine bodyPost_ret (v := .agg (stpCells (Hx.restF s st).1).toArray) (by simp [results, Tryd.results87, go_sem, r0, r1, r2, r3, r4, stpCells, Hx.restF]) rfl ?_
    refine ⟨rfl, ?_, ?_⟩
    · have hk : w.heap.size ≠ b := by have := HB.out; omega
      exact Rd.set_other (Rd.set_other (Rd.set_other (Rd.set_other (Rd.set_other (unhide HR4) hk _ _) hk _ _) hk _ _) hk _ _) hk _ _
    · have hle := Nat.le_refl w.heap.size
      exact grown_set_new (grown_set_new (grown_set_new (grown_set_new (grown_set_new (grown_trans (unhide HG3) (unhide HG4)) hle _ _) hle _ _) hle _ _) hle _ _) hle _ _

end Go.Proofs.YtppcnlkhdgmaiaaDoor
namespace Go.Proofs.YtppcnlkhdgmaiaaDoor
open Go.RowKit

theorem grown_own {w wr w1 : World} {row : Option Nat} {b : Nat} (h : w.grownBy wr (some b)) (k : wr.grownBy w1 row) (hr : ∀ k, row = some k → w.heap.size ≤ k) : w.grownBy w1 (some b) :=
  ⟨k.os.trans h.os, k.tape.trans h.tape, k.output.trans h.output, Nat.le_trans h.size k.size, fun i hi hne => (k.block i (Nat.lt_of_lt_of_le hi h.size) (fun e => by have := hr i e.symm; omega)).trans (h.block i hi hne)⟩
theorem own_ne {w : World} {base : Nat} {e : TypeId} {size : Nat} {v : Value} {n : Nat} {xs : List Value} {b : Nat} (h : w.ownsRow base e size v n xs) (hb : b < base) : v.ownBlock = none ∨ v.ownBlock ≠ some b :=
  Or.inr fun e => by have := (h.lt b e).1; omega
theorem news_new (w : World) (l : List Value) (T : TypeId) : ∀ (j : Nat) (u : Value), l[j]? = some u → (w.alloc (.cells l.toArray T)).cell? ((⟨w.heap.size, 0, none⟩ : Addr).add j) = some u := by
  intro j u hj
  have h := blk_cell (blk_new w l.toArray T) j
  simp only [List.getElem?_toArray] at h
  have e : (⟨w.heap.size, 0, none⟩ : Addr).add j = ⟨w.heap.size, j, none⟩ := by simp [Addr.add]; exact fun h => h.symm
  rw [e]
  exact h.trans hj

def accCells (acc : List Hx.Stp) : List Value := acc.flatMap stpCells
theorem accCells_snoc (acc : List Hx.Stp) (x : Hx.Stp) : accCells (acc ++ [x]) = accCells acc ++ stpCells x := by simp [accCells]
theorem accCells_len (acc : List Hx.Stp) : (accCells acc).length = acc.length * 5 := by
  induction acc with
  | nil => rfl
  | cons x r ih =>
    have e : accCells (x :: r) = stpCells x ++ accCells r := rfl
    rw [e, List.length_append, ih]
    simp [stpCells]; omega
theorem stpCells_one (x : Hx.Stp) : ∀ u ∈ stpCells x, u.oneCell' = true := by
  intro u hu
  simp [stpCells] at hu
  rcases hu with rfl | rfl | rfl | rfl | rfl <;> rfl

def mst (s : ByteArray) (st : Hx.St) : Nat := if st.bad = true then 0 else s.size - st.pos + 1

theorem Tryd.info81 : (Tryd.prog.info? 81).map (fun i => (i.zero, i.size, i.bytes)) = some (some (.agg #[.int .i64 0, .int .i64 0, .bool false, .int .i64 0, .int .i64 0]), 5, 40) := by kernel_rfl

set_option maxHeartbeats 2000000 in
theorem plate_any (s : ByteArray) (b : Nat) (st : Hx.St) (ni : Int) (n : Nat) (w : World) (hs : s.size ≤ 120) (hp : st.pos ≤ s.size) (hn : n ≤ 120) (hni : ni = (n : Int)) (hb : 1 < b) (ht : Tab w) (hr : Rd 147 s b st w) :
    Calls Tryd.prog 66 #[.pointer (some ⟨b, 0, none⟩), .int .i64 ni] w fun e w' => ∃ v, e = .returned v ∧ w'.ownsRow w.heap.size 81 5 v (Hx.plateF s n st).2.length (accCells (Hx.plateF s n st).2) ∧ (Hx.plateF s n st).2.length ≤ s.size + 1 ∧ Rd 147 s b (Hx.plateF s n st).1 w' ∧ w.grownBy w' (some b) := by
  have HT : Hid (Tab w) := ht
  have HR : Hid (Rd 147 s b st w) := hr
  have HB : Hid (b < w.heap.size) := hr.lt
  have HNI : Hid (ni = (n : Int)) := hni
  have HN : Hid (n ≤ 120) := hn
  clear ht hr hni hn
  obtain ⟨i0, hi, hz0, hz1, hz2⟩ := info_parts Tryd.info81
  have HI := hide hi
  have HZ0 := hide hz0
  have HZ1 := hide hz1
  have HZ2 := hide hz2
  clear hi hz0 hz1 hz2
  go_enter Tryd.func66, Tryd.ntmps66
  go_wp2_with fail
  refine (take_any s b st _ 59 _ (up1 hs) hp rfl (by omega) HR.out).mono ?_
  rintro e w1 ⟨rfl, hr1, hg1⟩
  have HR1 := hide hr1
  have HT1 : Hid (Tab w1) := HT.out.grown hb hg1
  have HG1 := hide hg1
  clear hr1 hg1
  go_wp2_with fail
  refine (letter_any s b _ _ n _ (up1 hs) (Hx.takeF_le (by omega) hp) HN.out HNI.out HT1.out (unhide HR1)).mono ?_
  rintro e w2 ⟨rfl, hr2, hg2⟩
  have HR2 := hide hr2
  have HT2 : Hid (Tab w2) := HT1.out.grown hb hg2
  have HG2 := hide (grown_trans (unhide HG1) hg2)
  clear hr2 hg2
  go_wp2_with fail
  refine (take_any s b _ _ 61 _ (up1 hs) (Hx.letterF_le (Hx.takeF_le (by omega) hp)) rfl (by omega) (unhide HR2)).mono ?_
  rintro e w3 ⟨rfl, hr3, hg3⟩
  have HR3 : Hid (Rd 147 s b (Hx.openF s n st) w3) := hr3
  have HT3 : Hid (Tab w3) := HT2.out.grown hb hg3
  have HG3 := hide (grown_trans (unhide HG2) hg3)
  clear hr3 hg3
  go_wp2_with fail
  refine (bounds_any s b (Hx.openF s n st) _ (up1 hs) (Hx.openF_le hp) hb HT3.out HR3.out).mono ?_
  rintro e w4 ⟨rfl, hr4, hg4⟩
  have HR4 : Hid (Rd 147 s b (Hx.boundsF s (Hx.openF s n st)).2 w4) := hr4
  have HT4 : Hid (Tab w4) := HT3.out.grown hb hg4
  have HG4 := hide (grown_trans (unhide HG3) hg4)
  clear hr4 hg4
  generalize hb0 : Hx.boundsF s (Hx.openF s n st) = r0 at HR4
  have HB0 := hide hb0
  clear hb0
  go_wp2_with fail
  have hown0 := World.ownsRow_lit (base := w.heap.size) (e := 81) (size := 5) w4 #[Value.int IntKind.i64 ↑r0.fst.lo, Value.int IntKind.i64 ↑r0.fst.hi, Value.bool false, Value.int IntKind.i64 0, Value.int IntKind.i64 0] 1 (unhide HG4).size (by unfold maxLen; omega) rfl
  have HOWN0 := hide hown0
  clear hown0
  go_loopg [5] (mst s r0.2) (fun gk v wr => ∃ (st' : Hx.St) (acc : List Hx.Stp), st'.pos ≤ s.size ∧ gk = mst s st' ∧ acc.length ≤ st'.pos + 1 ∧ wr.ownsRow w.heap.size 81 5 v acc.length (accCells acc) ∧ Rd 147 s b st' wr ∧ w.grownBy wr (some b) ∧ Hx.afterF s st' acc = Hx.plateF s n st)
  case atStart =>
    refine ⟨r0.2, [⟨r0.1.lo, r0.1.hi, false, 0, 0⟩], ?_, rfl, by simp, unhide HOWN0, Rd.alloc HR4.out _, grown_trans (unhide HG4) (grown_alloc _ _ _), ?_⟩
    · rw [← unhide HB0]; exact Hx.boundsF_le (Hx.openF_le hp)
    · rw [← unhide HB0]; rfl
  case round =>
    clear HR1 HR2 HR3 HR4 HT1 HT2 HT3 HT4 HG1 HG2 HG3 HG4 HB0 HOWN0 HNI HN
    obtain ⟨st', acc, hpos, rfl, hlen, hown, hrd, hgr, hfin⟩ := hrel
    have HOWN := hide hown
    have HRD := hide hrd
    have HGR := hide hgr
    have HFIN := hide hfin
    have HTR : Hid (Tab wr) := HT.out.grown hb hgr
    have c2 := hrd.c2
    have hsz : Hid (w.heap.size ≤ wr.heap.size) := hgr.size
    clear hown hrd hgr hfin
    obtain ⟨pos, bad⟩ := st'
    simp only at c2 hpos hlen
    cases bad
    · by_cases h44 : Hx.byteAt s pos = 44
      · have hk := hide (show ((Hx.kindOf (Hx.byteAt s pos) : Nat) : Int) = 5 by rw [(Hx.kindOf_five _).2 h44]; rfl)
        have HFIN2 := hide ((Hx.afterF_comma (st := ⟨pos, false⟩) (acc := acc) rfl h44).symm.trans (unhide HFIN))
        have hlt : pos < s.size := Hx.byteAt_in (by omega)
        have H44 := hide h44
        clear h44 HFIN
        go_wp2_with fail
        refine (kind_val s b ⟨pos, false⟩ _ _ (up1 hs) hpos (unhide hk) HTR.out (unhide HRD)).mono ?_
        rintro e w1 ⟨rfl, n1, rfl⟩
        go_wp2_with fail
        refine (take_any s b ⟨pos, false⟩ _ 44 _ (up1 hs) hpos rfl (by omega) (Rd.drewN (unhide HRD) _)).mono ?_
        rintro e w1 ⟨rfl, hr1, hg1⟩
        rw [Hx.takeF_yes rfl (unhide H44)] at hr1
        have HR1 := hide hr1
        have HT1 : Hid (Tab w1) := (Tab.drewN HTR.out _).grown hb hg1
        have HG1 := hide (grown_trans (grown_drewN wr _ _) hg1)
        clear hr1 hg1
        go_wp2_with fail
        refine (bounds_any s b ⟨pos + 1, false⟩ _ (up1 hs) (by show pos + 1 ≤ _; omega) hb HT1.out (unhide HR1)).mono ?_
        rintro e w2 ⟨rfl, hr2, hg2⟩
        have hge := Hx.boundsF_ge s ⟨pos + 1, false⟩
        have hle := Hx.boundsF_le (s := s) (st := ⟨pos + 1, false⟩) (by show pos + 1 ≤ _; omega)
        generalize hr : Hx.boundsF s ⟨pos + 1, false⟩ = r at hr2 hge hle HFIN2
        clear hr
        simp only at hge
        have HR2 := hide hr2
        have HG2 := hide (grown_trans (unhide HG1) hg2)
        have HOWN2 := hide ((unhide HOWN).kept (unhide HG2) (own_ne (unhide HOWN) HB.out))
        clear hr2 hg2 HOWN HRD HG1 HR1 HT1 HTR
        go_wp2_with (at_builtin; refine wpList_append_own _ rfl _ _ 124 rfl w.heap.size 81 i0 (.agg #[.int .i64 0, .int .i64 0, .bool false, .int .i64 0, .int .i64 0]) 5 40 Tryd.underlying124 (unhide HI) (unhide HZ0) (unhide HZ1) (unhide HZ2) rfl (by decide) _ _ _ rfl ((unhide HOWN2).alloc _) ⟨w2.heap.size, 0, none⟩ 1 1 (stpCells ⟨r.1.lo, r.1.hi, false, 0, 0⟩) rfl rfl ?c1 ?c2 ?c3 ?c4 ?c5 ?_)
        case c1 => exact news_new w2 (stpCells ⟨r.1.lo, r.1.hi, false, 0, 0⟩) 81
        case c2 => exact stpCells_one _
        case c3 => unfold maxLen; omega
        case c4 => omega
        case c5 => have := hsz.out; have := (unhide HG2).size; simp; omega
        · intro v' w3 hown' hgrow _
          have HOWN3 := hide hown'
          have HGROW := hide hgrow
          clear hown' hgrow
          go_wp2_with fail
          go_roundg (mst s r.2)
          case measure => simp only [mst]; split <;> simp <;> omega
          case rel =>
            refine ⟨r.2, acc ++ [⟨r.1.lo, r.1.hi, false, 0, 0⟩], hle, rfl, by simp; omega, ?_, ?_, ?_, unhide HFIN2⟩
            · rw [accCells_snoc, List.length_append]; exact unhide HOWN3
            · exact ((unhide HR2).alloc _).kept (unhide HGROW) (fun e => by rcases own_ne (unhide HOWN2) HB.out with h | h <;> simp_all)
            · exact grown_own (grown_trans (unhide HGR) (grown_trans (unhide HG2) (grown_alloc _ _ _))) (unhide HGROW) (fun k e => ((unhide HOWN2).lt k e).1)
      · by_cases h126 : Hx.byteAt s pos = 126
        · have hk := hide (show ((Hx.kindOf (Hx.byteAt s pos) : Nat) : Int) = 6 by rw [(Hx.kindOf_six _).2 h126]; rfl)
          have HFIN2 := hide ((Hx.afterF_rest (st := ⟨pos, false⟩) (acc := acc) rfl h126).symm.trans (unhide HFIN))
          have hlt : pos < s.size := Hx.byteAt_in (by omega)
          have hge := Hx.restF_ge s ⟨pos, false⟩
          rw [Hx.takeF_yes rfl h126] at hge
          have hle := Hx.restF_le (s := s) (st := ⟨pos, false⟩) hpos
          clear h44 h126 HFIN
          go_wp2_with fail
          refine (kind_val s b ⟨pos, false⟩ _ _ (up1 hs) hpos (unhide hk) HTR.out (unhide HRD)).mono ?_
          rintro e w1 ⟨rfl, n1, rfl⟩
          go_wp2_with fail
          refine (rest_any s b ⟨pos, false⟩ _ hs hpos hb (Tab.drewN HTR.out _) (Rd.drewN (unhide HRD) _)).mono ?_
          rintro e w2 ⟨rfl, hr2, hg2⟩
          generalize hr : Hx.restF s ⟨pos, false⟩ = r at hr2 hge hle HFIN2
          clear hr
          obtain ⟨⟨rlo, rhi, rrest, rmn, rmx⟩, rst⟩ := r
          simp only at hge hle hr2
          have HR2 := hide hr2
          have HG2 := hide (grown_trans (grown_drewN wr _ _) hg2)
          have HOWN2 := hide ((unhide HOWN).kept (unhide HG2) (own_ne (unhide HOWN) HB.out))
          clear hr2 hg2 HOWN HRD HTR
          simp only [stpCells]
          go_wp2_with (at_builtin; refine wpList_append_own _ rfl _ _ 124 rfl w.heap.size 81 i0 (.agg #[.int .i64 0, .int .i64 0, .bool false, .int .i64 0, .int .i64 0]) 5 40 Tryd.underlying124 (unhide HI) (unhide HZ0) (unhide HZ1) (unhide HZ2) rfl (by decide) _ _ _ rfl ((unhide HOWN2).alloc _) ⟨w2.heap.size, 0, none⟩ 1 1 (stpCells ⟨rlo, rhi, rrest, rmn, rmx⟩) rfl rfl ?d1 ?d2 ?d3 ?d4 ?d5 ?_)
          case d1 => exact fun _ _ h => h
          case d2 => exact stpCells_one _
          case d3 => unfold maxLen; omega
          case d4 => omega
          case d5 => have := hsz.out; have := (unhide HG2).size; simp; omega
          · intro v' w3 hown' hgrow _
            have HOWN3 := hide hown'
            have HGROW := hide hgrow
            clear hown' hgrow
            go_wp2_with fail
            go_roundg (mst s rst)
            case measure => simp only [mst]; split <;> simp <;> omega
            case rel =>
              refine ⟨rst, acc ++ [⟨rlo, rhi, rrest, rmn, rmx⟩], hle, rfl, by simp; omega, ?_, ?_, ?_, unhide HFIN2⟩
              · rw [accCells_snoc, List.length_append]; exact unhide HOWN3
              · exact ((unhide HR2).alloc _).kept (unhide HGROW) (fun e => by rcases own_ne (unhide HOWN2) HB.out with h | h <;> simp_all)
              · exact grown_own (grown_trans (unhide HGR) (grown_trans (unhide HG2) (grown_alloc _ _ _))) (unhide HGROW) (fun k e => ((unhide HOWN2).lt k e).1)
        · obtain ⟨kv, hkv, hk1, hk2⟩ : ∃ kv : Int, (Hx.kindOf (Hx.byteAt s pos) : Int) = kv ∧ (kv == 5) = false ∧ (kv == 6) = false := by
            refine ⟨_, rfl, ?_, ?_⟩
            · rw [beq_eq_false_iff_ne]; intro e; exact h44 ((Hx.kindOf_five (Hx.byteAt s pos)).1 (by omega))
            · rw [beq_eq_false_iff_ne]; intro e; exact h126 ((Hx.kindOf_six (Hx.byteAt s pos)).1 (by omega))
          have HKV : Hid ((Hx.kindOf (Hx.byteAt s pos) : Int) = kv) := hkv
          have hfin2 : Hid (((⟨pos, false⟩ : Hx.St), acc) = Hx.plateF s n st) := (Hx.afterF_stop h44 h126).symm.trans (unhide HFIN)
          clear h44 h126 hkv HFIN
          go_wp2_with fail
          refine (kind_val s b ⟨pos, false⟩ _ _ (up1 hs) hpos (unhide HKV) HTR.out (unhide HRD)).mono ?_
          rintro e w1 ⟨rfl, n1, rfl⟩
          go_wp2_with fail
          go_returns
          rw [← unhide hfin2]
          exact ⟨_, rfl, unhide HOWN, by show acc.length ≤ _; omega, unhide HRD, grown_trans (unhide HGR) (grown_drewN _ _ _)⟩
    · have hfin2 : Hid (((⟨pos, true⟩ : Hx.St), acc) = Hx.plateF s n st) := (Hx.afterF_bad rfl).symm.trans (unhide HFIN)
      go_wp2_with fail
      go_returns
      rw [← unhide hfin2]
      exact ⟨_, rfl, unhide HOWN, by show acc.length ≤ _; omega, unhide HRD, unhide HGR⟩

end Go.Proofs.YtppcnlkhdgmaiaaDoor
