/- The plain mathematics of reading a protocol: how far a text is read, what is read, which error it comes to. No program is named here. -/
namespace Go.Proofs.YtppcnlkhdgmaiaaGreatDoor
namespace Hx

structure St where
  pos : Nat
  bad : Bool

def byteAt (s : ByteArray) (i : Nat) : Nat := if h : i < s.size then (s[i]'h).toNat else 256

theorem byteAt_lt {s : ByteArray} {i : Nat} (h : i < s.size) : byteAt s i = (s[i]'h).toNat := by simp [byteAt, h]
theorem byteAt_ge {s : ByteArray} {i : Nat} (h : s.size ≤ i) : byteAt s i = 256 := by
  have : ¬ i < s.size := by omega
  simp [byteAt, this]
theorem byteAt_in {s : ByteArray} {i : Nat} (h : byteAt s i < 256) : i < s.size := by
  by_cases g : i < s.size
  · exact g
  · rw [byteAt_ge (by omega)] at h; omega

def kindOf (b : Nat) : Nat :=
  if b = 48 then 1 else if 49 ≤ b ∧ b ≤ 57 then 2 else if 97 ≤ b ∧ b ≤ 100 then 3 else if 101 ≤ b ∧ b ≤ 122 then 4 else if b = 44 then 5 else if b = 126 then 6 else if b = 60 then 7 else if b = 62 then 8
  else if b = 59 ∨ b = 61 ∨ b = 45 ∨ b = 64 ∨ b = 43 ∨ b = 58 ∨ b = 47 then 9 else 0

theorem kindOf_one (b : Nat) : kindOf b = 1 ↔ b = 48 := by unfold kindOf; repeat' split <;> try omega
theorem kindOf_two (b : Nat) : kindOf b = 2 ↔ (49 ≤ b ∧ b ≤ 57) := by unfold kindOf; repeat' split <;> try omega
theorem kindOf_three (b : Nat) : kindOf b = 3 ↔ (97 ≤ b ∧ b ≤ 100) := by unfold kindOf; repeat' split <;> try omega
theorem kindOf_four (b : Nat) : kindOf b = 4 ↔ (101 ≤ b ∧ b ≤ 122) := by unfold kindOf; repeat' split <;> try omega
theorem kindOf_five (b : Nat) : kindOf b = 5 ↔ b = 44 := by unfold kindOf; repeat' split <;> try omega
theorem kindOf_six (b : Nat) : kindOf b = 6 ↔ b = 126 := by unfold kindOf; repeat' split <;> try omega
theorem kindOf_seven (b : Nat) : kindOf b = 7 ↔ b = 60 := by unfold kindOf; repeat' split <;> try omega
theorem kindOf_eight (b : Nat) : kindOf b = 8 ↔ b = 62 := by unfold kindOf; repeat' split <;> try omega
theorem kindOf_le (b : Nat) : kindOf b ≤ 9 := by unfold kindOf; repeat' split <;> try omega
theorem kindOf_big {b : Nat} (h : 128 ≤ b) : kindOf b = 0 := by unfold kindOf; repeat' split <;> try omega

/-- One byte must come. -/
def takeF (s : ByteArray) (c : Nat) (st : St) : St := if st.bad = true ∨ byteAt s st.pos ≠ c then ⟨st.pos, true⟩ else ⟨st.pos + 1, false⟩

theorem takeF_bad {s : ByteArray} {c : Nat} {st : St} (h : st.bad = true) : takeF s c st = st := by
  cases st; simp_all [takeF]
theorem takeF_ge (s : ByteArray) (c : Nat) (st : St) : st.pos ≤ (takeF s c st).pos := by unfold takeF; split <;> simp
theorem takeF_le {s : ByteArray} {c : Nat} {st : St} (hc : c < 256) (h : st.pos ≤ s.size) : (takeF s c st).pos ≤ s.size := by
  unfold takeF
  split
  · exact h
  · rename_i g
    have : byteAt s st.pos = c := by
      by_cases e : byteAt s st.pos = c
      · exact e
      · exact absurd (Or.inr e) g
    have := byteAt_in (s := s) (i := st.pos) (by omega)
    simp; omega
theorem takeF_good {s : ByteArray} {c : Nat} {st : St} (h : (takeF s c st).bad = false) : st.bad = false ∧ byteAt s st.pos = c ∧ takeF s c st = ⟨st.pos + 1, false⟩ := by
  unfold takeF at h ⊢
  split at h
  · simp at h
  · rename_i g
    rw [if_neg g]
    refine ⟨?_, ?_, rfl⟩
    · cases hb : st.bad
      · rfl
      · exact absurd (Or.inl hb) g
    · by_cases e : byteAt s st.pos = c
      · exact e
      · exact absurd (Or.inr e) g
theorem takeF_yes {s : ByteArray} {c : Nat} {st : St} (h : st.bad = false) (e : byteAt s st.pos = c) : takeF s c st = ⟨st.pos + 1, false⟩ := by simp [takeF, h, e]
theorem takeF_no {s : ByteArray} {c : Nat} {st : St} (e : byteAt s st.pos ≠ c) : takeF s c st = ⟨st.pos, true⟩ := by simp [takeF, e]

/-- Digits, at most so many, behind a number that is read so far. -/
def digF (s : ByteArray) : Nat → Nat → Nat → Nat × Nat
  | 0, at_, v => (v, at_)
  | k + 1, at_, v => if 48 ≤ byteAt s at_ ∧ byteAt s at_ ≤ 57 then digF s k (at_ + 1) (v * 10 + (byteAt s at_ - 48)) else (v, at_)

theorem digF_ge (s : ByteArray) : ∀ k at_ v, at_ ≤ (digF s k at_ v).2
  | 0, at_, v => by simp [digF]
  | k + 1, at_, v => by
    unfold digF
    split
    · have := digF_ge s k (at_ + 1) (v * 10 + (byteAt s at_ - 48)); omega
    · simp
theorem digF_le (s : ByteArray) : ∀ k at_ v, at_ ≤ s.size → (digF s k at_ v).2 ≤ s.size
  | 0, at_, v, h => by simpa [digF] using h
  | k + 1, at_, v, h => by
    unfold digF
    split
    · rename_i g
      have := byteAt_in (s := s) (i := at_) (by omega)
      exact digF_le s k (at_ + 1) _ (by omega)
    · exact h
theorem digF_val (s : ByteArray) : ∀ k at_ v m, v < 10 ^ m → (digF s k at_ v).1 < 10 ^ (m + k)
  | 0, at_, v, m, h => by simpa [digF] using h
  | k + 1, at_, v, m, h => by
    unfold digF
    split
    · rename_i g
      have := digF_val s k (at_ + 1) (v * 10 + (byteAt s at_ - 48)) (m + 1) (by rw [Nat.pow_succ]; omega)
      rw [show m + (k + 1) = m + 1 + k from by omega]
      exact this
    · have : 10 ^ m ≤ 10 ^ (m + (k + 1)) := Nat.pow_le_pow_right (by omega) (by omega)
      show v < _
      omega
theorem digF_step {s : ByteArray} {k at_ v : Nat} (h : 48 ≤ byteAt s at_ ∧ byteAt s at_ ≤ 57) : digF s (k + 1) at_ v = digF s k (at_ + 1) (v * 10 + (byteAt s at_ - 48)) := by
  rw [digF, if_pos h]
theorem digF_stop {s : ByteArray} {k at_ v : Nat} (h : ¬ (48 ≤ byteAt s at_ ∧ byteAt s at_ ≤ 57)) : digF s k at_ v = (v, at_) := by
  cases k
  · rfl
  · rw [digF, if_neg h]

/-- A number of at most so many digits. -/
def numF (s : ByteArray) (most : Nat) (st : St) : Nat × St :=
  if st.bad = true then (0, st)
  else if byteAt s st.pos = 48 then (0, ⟨st.pos + 1, false⟩)
  else if 49 ≤ byteAt s st.pos ∧ byteAt s st.pos ≤ 57 then ((digF s most st.pos 0).1, ⟨(digF s most st.pos 0).2, false⟩)
  else (0, ⟨st.pos, true⟩)

theorem numF_bad {s : ByteArray} {m : Nat} {st : St} (h : st.bad = true) : numF s m st = (0, st) := by simp [numF, h]
theorem numF_zero {s : ByteArray} {m : Nat} {st : St} (h : st.bad = false) (e : byteAt s st.pos = 48) : numF s m st = (0, ⟨st.pos + 1, false⟩) := by simp [numF, h, e]
theorem numF_dig {s : ByteArray} {m : Nat} {st : St} (h : st.bad = false) (e : 49 ≤ byteAt s st.pos ∧ byteAt s st.pos ≤ 57) : numF s m st = ((digF s m st.pos 0).1, ⟨(digF s m st.pos 0).2, false⟩) := by
  have : ¬ byteAt s st.pos = 48 := by omega
  simp [numF, h, e, this]
theorem numF_no {s : ByteArray} {m : Nat} {st : St} (h : st.bad = false) (e : ¬ (48 ≤ byteAt s st.pos ∧ byteAt s st.pos ≤ 57)) : numF s m st = (0, ⟨st.pos, true⟩) := by
  have h1 : ¬ byteAt s st.pos = 48 := by omega
  have h2 : ¬ (49 ≤ byteAt s st.pos ∧ byteAt s st.pos ≤ 57) := by omega
  simp only [numF, h, if_neg h1, if_neg h2]; simp
theorem numF_ge (s : ByteArray) (m : Nat) (st : St) : st.pos ≤ (numF s m st).2.pos := by
  unfold numF
  split
  · simp
  · split
    · simp
    · split
      · exact digF_ge s m st.pos 0
      · simp
theorem numF_le {s : ByteArray} {m : Nat} {st : St} (h : st.pos ≤ s.size) : (numF s m st).2.pos ≤ s.size := by
  unfold numF
  split
  · exact h
  · split
    · rename_i g
      have := byteAt_in (s := s) (i := st.pos) (by omega)
      show st.pos + 1 ≤ _; omega
    · split
      · exact digF_le s m st.pos 0 h
      · exact h
theorem numF_val (s : ByteArray) (m : Nat) (st : St) : (numF s m st).1 < 10 ^ m := by
  have hp : 0 < 10 ^ m := Nat.pow_pos (by omega)
  unfold numF
  split
  · exact hp
  · split
    · exact hp
    · split
      · have := digF_val s m st.pos 0 0 (by simp); simpa using this
      · exact hp
theorem numF_bad_of {s : ByteArray} {m : Nat} {st : St} (h : st.bad = true) : (numF s m st).2.bad = true := by rw [numF_bad h]; exact h

structure Bd where
  lo : Nat
  hi : Nat

def boundsF (s : ByteArray) (st : St) : Bd × St :=
  let r1 := numF s 3 st
  let r3 := numF s 3 (takeF s 45 r1.2)
  (⟨r1.1, r3.1⟩, r3.2)

theorem boundsF_bad {s : ByteArray} {st : St} (h : st.bad = true) : boundsF s st = (⟨0, 0⟩, st) := by simp [boundsF, numF_bad h, takeF_bad h]
theorem boundsF_ge (s : ByteArray) (st : St) : st.pos ≤ (boundsF s st).2.pos :=
  Nat.le_trans (numF_ge s 3 st) (Nat.le_trans (takeF_ge s 45 _) (numF_ge s 3 _))
theorem boundsF_le {s : ByteArray} {st : St} (h : st.pos ≤ s.size) : (boundsF s st).2.pos ≤ s.size := numF_le (takeF_le (by omega) (numF_le h))
theorem boundsF_lo (s : ByteArray) (st : St) : (boundsF s st).1.lo < 1000 := numF_val s 3 st
theorem boundsF_hi (s : ByteArray) (st : St) : (boundsF s st).1.hi < 1000 := numF_val s 3 _

structure Stp where
  lo : Nat
  hi : Nat
  rest : Bool
  mn : Nat
  mx : Nat

/-- A rest and the step behind it. -/
def restF (s : ByteArray) (st : St) : Stp × St :=
  let r := boundsF s (takeF s 126 st)
  let b := boundsF s (takeF s 126 r.2)
  (⟨b.1.lo, b.1.hi, true, r.1.lo, r.1.hi⟩, b.2)

theorem restF_ge (s : ByteArray) (st : St) : (takeF s 126 st).pos ≤ (restF s st).2.pos :=
  Nat.le_trans (boundsF_ge s _) (Nat.le_trans (takeF_ge s 126 _) (boundsF_ge s _))
theorem restF_le {s : ByteArray} {st : St} (h : st.pos ≤ s.size) : (restF s st).2.pos ≤ s.size :=
  boundsF_le (takeF_le (by omega) (boundsF_le (takeF_le (by omega) h)))

/-- What stands behind a step of a plate. -/
def afterF (s : ByteArray) (st : St) (acc : List Stp) : St × List Stp :=
  if st.bad = true then (st, acc)
  else if byteAt s st.pos = 44 then
    let r := boundsF s ⟨st.pos + 1, false⟩
    afterF s r.2 (acc ++ [⟨r.1.lo, r.1.hi, false, 0, 0⟩])
  else if byteAt s st.pos = 126 then
    let r := restF s st
    afterF s r.2 (acc ++ [r.1])
  else (st, acc)
termination_by s.size - st.pos
decreasing_by
  · rename_i hb _
    have h1 := byteAt_in (s := s) (i := st.pos) (by omega)
    have h2 := boundsF_ge s ⟨st.pos + 1, false⟩
    simp only at h2
    omega
  · rename_i hb _ h126
    have h1 := byteAt_in (s := s) (i := st.pos) (by omega)
    have h2 := restF_ge s st
    rw [takeF_yes (by simpa using hb) h126] at h2
    simp only at h2
    omega

theorem afterF_bad {s : ByteArray} {st : St} {acc : List Stp} (h : st.bad = true) : afterF s st acc = (st, acc) := by rw [afterF, if_pos h]
theorem afterF_comma {s : ByteArray} {st : St} {acc : List Stp} (h : st.bad = false) (e : byteAt s st.pos = 44) :
    afterF s st acc = afterF s (boundsF s ⟨st.pos + 1, false⟩).2 (acc ++ [⟨(boundsF s ⟨st.pos + 1, false⟩).1.lo, (boundsF s ⟨st.pos + 1, false⟩).1.hi, false, 0, 0⟩]) := by
  rw [afterF, if_neg (by simp [h]), if_pos e]
theorem afterF_rest {s : ByteArray} {st : St} {acc : List Stp} (h : st.bad = false) (e : byteAt s st.pos = 126) :
    afterF s st acc = afterF s (restF s st).2 (acc ++ [(restF s st).1]) := by
  rw [afterF, if_neg (by simp [h]), if_neg (by omega), if_pos e]
theorem afterF_stop {s : ByteArray} {st : St} {acc : List Stp} (e : byteAt s st.pos ≠ 44) (e2 : byteAt s st.pos ≠ 126) : afterF s st acc = (st, acc) := by
  rw [afterF]; simp [e, e2]

theorem afterF_ge (s : ByteArray) (st : St) (acc : List Stp) : st.pos ≤ (afterF s st acc).1.pos := by
  induction st, acc using afterF.induct s with
  | case1 st acc h => rw [afterF_bad h]; simp
  | case2 st acc h e r ih =>
    rw [afterF_comma (by simpa using h) e]
    have := boundsF_ge s ⟨st.pos + 1, false⟩
    simp only at this
    exact Nat.le_trans (show st.pos ≤ (boundsF s ⟨st.pos + 1, false⟩).2.pos by omega) ih
  | case3 st acc h e e2 r ih =>
    rw [afterF_rest (by simpa using h) e2]
    have := restF_ge s st
    have h3 := takeF_ge s 126 st
    exact Nat.le_trans (show st.pos ≤ (restF s st).2.pos by omega) ih
  | case4 st acc h e e2 => rw [afterF_stop e e2]; simp

theorem afterF_le {s : ByteArray} {st : St} {acc : List Stp} (h : st.pos ≤ s.size) : (afterF s st acc).1.pos ≤ s.size := by
  induction st, acc using afterF.induct s with
  | case1 st acc h1 => rw [afterF_bad h1]; exact h
  | case2 st acc h1 e r ih =>
    rw [afterF_comma (by simpa using h1) e]
    have := byteAt_in (s := s) (i := st.pos) (by omega)
    exact ih (boundsF_le (by show st.pos + 1 ≤ _; omega))
  | case3 st acc h1 e e2 r ih =>
    rw [afterF_rest (by simpa using h1) e2]
    exact ih (restF_le h)
  | case4 st acc h1 e e2 => rw [afterF_stop e e2]; exact h

/-- A plate's letter. -/
def letterF (s : ByteArray) (n : Nat) (st : St) : St := if n < 26 then takeF s (97 + n) st else ⟨st.pos, true⟩

theorem letterF_ge (s : ByteArray) (n : Nat) (st : St) : st.pos ≤ (letterF s n st).pos := by unfold letterF; split; exact takeF_ge _ _ _; simp
theorem letterF_le {s : ByteArray} {n : Nat} {st : St} (h : st.pos ≤ s.size) : (letterF s n st).pos ≤ s.size := by
  unfold letterF; split
  · exact takeF_le (by omega) h
  · exact h
theorem letterF_bad {s : ByteArray} {n : Nat} {st : St} (h : st.bad = true) : letterF s n st = st := by
  unfold letterF; split
  · exact takeF_bad h
  · cases st; simp_all

/-- What stands ahead of a plate's first step. -/
def openF (s : ByteArray) (n : Nat) (st : St) : St := takeF s 61 (letterF s n (takeF s 59 st))
/-- A plate: its head, its first step, the rest of it. -/
def plateF (s : ByteArray) (n : Nat) (st : St) : St × List Stp :=
  afterF s (boundsF s (openF s n st)).2 [⟨(boundsF s (openF s n st)).1.lo, (boundsF s (openF s n st)).1.hi, false, 0, 0⟩]

theorem openF_bad {s : ByteArray} {n : Nat} {st : St} (h : st.bad = true) : openF s n st = st := by
  unfold openF; rw [takeF_bad h, letterF_bad h, takeF_bad h]
theorem openF_le {s : ByteArray} {n : Nat} {st : St} (h : st.pos ≤ s.size) : (openF s n st).pos ≤ s.size := takeF_le (by omega) (letterF_le (takeF_le (by omega) h))
theorem openF_ge (s : ByteArray) (n : Nat) (st : St) : (takeF s 59 st).pos ≤ (openF s n st).pos := Nat.le_trans (letterF_ge _ _ _) (takeF_ge _ _ _)
theorem plateF_bad {s : ByteArray} {n : Nat} {st : St} (h : st.bad = true) : (plateF s n st).1 = st := by
  unfold plateF
  rw [openF_bad h, boundsF_bad h, afterF_bad h]
theorem plateF_le {s : ByteArray} {n : Nat} {st : St} (h : st.pos ≤ s.size) : (plateF s n st).1.pos ≤ s.size := afterF_le (boundsF_le (openF_le h))
theorem plateF_ge (s : ByteArray) (n : Nat) (st : St) : (takeF s 59 st).pos ≤ (plateF s n st).1.pos :=
  Nat.le_trans (openF_ge s n st) (Nat.le_trans (boundsF_ge s _) (afterF_ge s _ _))
theorem plateF_gt {s : ByteArray} {n : Nat} {st : St} (h : (plateF s n st).1.bad = false) : st.pos < (plateF s n st).1.pos := by
  have hg := plateF_ge s n st
  cases hb : (takeF s 59 st).bad
  · obtain ⟨_, _, e⟩ := takeF_good hb
    rw [e] at hg; simp only at hg; omega
  · exfalso
    have e1 : openF s n st = takeF s 59 st := by
      unfold openF; rw [letterF_bad hb, takeF_bad hb]
    unfold plateF at h
    rw [e1, boundsF_bad hb, afterF_bad hb] at h
    simp only at h
    rw [hb] at h; cases h

/-- The plates, one behind the other. -/
def platesF (s : ByteArray) (st : St) (acc : List (List Stp)) : St × List (List Stp) :=
  if _h : (plateF s acc.length st).1.bad = true then ((plateF s acc.length st).1, acc)
  else if s.size ≤ (plateF s acc.length st).1.pos then ((plateF s acc.length st).1, acc ++ [(plateF s acc.length st).2])
  else platesF s (plateF s acc.length st).1 (acc ++ [(plateF s acc.length st).2])
termination_by s.size - st.pos
decreasing_by
  have := plateF_gt (s := s) (n := acc.length) (st := st) (by simpa using _h)
  omega

theorem platesF_bad {s : ByteArray} {st : St} {acc : List (List Stp)} (h : (plateF s acc.length st).1.bad = true) : platesF s st acc = ((plateF s acc.length st).1, acc) := by
  rw [platesF, dif_pos h]
theorem platesF_end {s : ByteArray} {st : St} {acc : List (List Stp)} (h : (plateF s acc.length st).1.bad = false) (e : s.size ≤ (plateF s acc.length st).1.pos) :
    platesF s st acc = ((plateF s acc.length st).1, acc ++ [(plateF s acc.length st).2]) := by
  rw [platesF, dif_neg (by simp [h]), if_pos e]
theorem platesF_more {s : ByteArray} {st : St} {acc : List (List Stp)} (h : (plateF s acc.length st).1.bad = false) (e : (plateF s acc.length st).1.pos < s.size) :
    platesF s st acc = platesF s (plateF s acc.length st).1 (acc ++ [(plateF s acc.length st).2]) := by
  rw [platesF, dif_neg (by simp [h]), if_neg (by omega)]

/-- The head of a protocol: J, K, D. -/
def headJ (s : ByteArray) : Nat × St := numF s 1 (takeF s 106 ⟨0, false⟩)
def headK (s : ByteArray) : Nat × St := numF s 1 (takeF s 107 (headJ s).2)
def headD (s : ByteArray) : Nat × St := numF s 4 (takeF s 100 (headK s).2)

theorem headD_le (s : ByteArray) : (headD s).2.pos ≤ s.size :=
  numF_le (takeF_le (by omega) (numF_le (takeF_le (by omega) (numF_le (takeF_le (by omega) (Nat.zero_le _))))))

def protF (s : ByteArray) : St × List (List Stp) := platesF s (headD s).2 []

/-- Is a step wrong? -/
def wrongB (k : Nat) (x : Stp) : Bool := x.lo == 0 || decide (x.hi < x.lo) || (x.rest && (k == 0 || decide (x.mx < x.mn)))

def firstWrong (k : Nat) (ps : List (List Stp)) : Option Nat := ps.flatten.findIdx? (wrongB k)
def manyB (ps : List (List Stp)) : Bool := ps.any (fun p => decide (5 < p.length)) || decide (4 < ps.length) || decide (9 < ps.flatten.length)

/-- P3: the error and the place. -/
def verdict (k : Nat) (ps : List (List Stp)) : Nat × Nat :=
  match firstWrong k ps with
  | some i => (3, i)
  | none => if manyB ps then (4, 0) else (0, 0)
def checkF (s : ByteArray) : Nat × Nat :=
  if 120 < s.size then (1, 0) else if (protF s).1.bad = true then (2, (protF s).1.pos) else verdict (headK s).1 (protF s).2

end Hx
end Go.Proofs.YtppcnlkhdgmaiaaGreatDoor
