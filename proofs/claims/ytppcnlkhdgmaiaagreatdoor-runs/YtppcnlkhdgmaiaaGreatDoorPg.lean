/- The plain mathematics of how the program reads a step of a table: it is how the document reads it. No program is named here. -/
import Derived.Test.YtppcnlkhdgmaiaaGreatDoorPf
namespace Go.Proofs.YtppcnlkhdgmaiaaGreatDoor
namespace Hx
theorem num1_one (s : ByteArray) (st : St) : numF s 1 st = ((oneF s 48 57 st).1, if st.bad then st else (oneF s 48 57 st).2) := by
  obtain ⟨pos, bad⟩ := st
  cases bad
  · by_cases h0 : byteAt s pos = 48
    · rw [oneF_yes rfl (by simp only; omega) (by simp only; omega), numF_zero rfl h0]; simp [h0]
    · by_cases h1 : 49 ≤ byteAt s pos ∧ byteAt s pos ≤ 57
      · rw [oneF_yes rfl (by simp only; omega) (by simp only; omega), numF_dig rfl h1]
        rw [digF_step (k := 0) (at_ := pos) (v := 0) (by omega)]
        simp [digF]
      · rw [oneF_no (by simp only; omega), numF_no rfl (by simp only; omega)]; simp
  · rw [oneF_bad rfl, numF_bad rfl]; simp
theorem num1_one' (s : ByteArray) (st : St) : numF s 1 st = oneF s 48 57 st := by
  rw [num1_one]
  obtain ⟨pos, bad⟩ := st
  cases bad
  · simp
  · rw [oneF_bad rfl]; simp

/-- What the program reads of a rest, of a place, of a step. -/
def ptRest (s : ByteArray) (st : St) : (Bool × Int × Nat × Nat) × St :=
  if byteAt s st.pos = 60 then
    ((true, ((numF s 1 (takeF s 60 st)).1 : Int), (boundsF s (takeF s 58 (numF s 1 (takeF s 60 st)).2)).1.lo, (boundsF s (takeF s 58 (numF s 1 (takeF s 60 st)).2)).1.hi), (boundsF s (takeF s 58 (numF s 1 (takeF s 60 st)).2)).2)
  else ((false, -1, 0, 0), st)
def ptInto (s : ByteArray) (st : St) : Int × St :=
  if byteAt s st.pos = 62 then (((numF s 1 (takeF s 62 st)).1 : Int), (numF s 1 (takeF s 62 st)).2) else (-1, st)
def ptHead (s : ByteArray) (st : St) : (Nat × Nat × Nat × Bd) × St :=
  let p := oneF s 97 100 (takeF s 59 st)
  let n := numF s 1 p.2
  let t := numF s 5 (takeF s 64 n.2)
  let b := boundsF s (takeF s 43 t.2)
  ((p.1, n.1, t.1, b.1), b.2)
def ptF (s : ByteArray) (st : St) : TStp × St :=
  let h := ptHead s st
  let r := ptRest s h.2
  let i := ptInto s r.2
  (⟨h.1.1, h.1.2.1, h.1.2.2.2.lo, h.1.2.2.2.hi, r.1.1, r.1.2.2.1, r.1.2.2.2, h.1.2.2.1, r.1.2.1, i.1⟩, i.2)

theorem ptRest_bad {s : ByteArray} {st : St} (h : st.bad = true) : (ptRest s st).2 = st := by
  unfold ptRest
  split
  · rw [takeF_bad h, numF_bad h, takeF_bad h, boundsF_bad h]
  · rfl
theorem ptInto_bad {s : ByteArray} {st : St} (h : st.bad = true) : (ptInto s st).2 = st := by
  unfold ptInto
  split
  · rw [takeF_bad h, numF_bad h]
  · rfl
theorem ptRest_good {s : ByteArray} {st : St} (h : st.bad = false) : ptRest s st = trestF s st := by
  unfold ptRest trestF
  by_cases e : byteAt s st.pos = 60
  · rw [if_pos e]
    have e2 : nextF s 60 st = (true, ⟨st.pos + 1, false⟩) := by unfold nextF; rw [if_pos ⟨h, e⟩]
    simp only [e2, if_true, takeF_yes h e, num1_one', boundsF]
  · rw [if_neg e]
    have e2 : nextF s 60 st = (false, st) := nextF_no (fun g => e g.2)
    simp only [e2]
    rfl
theorem ptInto_good {s : ByteArray} {st : St} (h : st.bad = false) : ptInto s st = tintoF s st := by
  unfold ptInto tintoF
  by_cases e : byteAt s st.pos = 62
  · rw [if_pos e]
    have e2 : nextF s 62 st = (true, ⟨st.pos + 1, false⟩) := by unfold nextF; rw [if_pos ⟨h, e⟩]
    simp only [e2, if_true, takeF_yes h e, num1_one']
  · rw [if_neg e]
    have e2 : nextF s 62 st = (false, st) := nextF_no (fun g => e g.2)
    simp only [e2]
    rfl
theorem trestF_bad {s : ByteArray} {st : St} (h : st.bad = true) : (trestF s st).2 = st := by
  have e2 : nextF s 60 st = (false, st) := nextF_no (by simp [h])
  simp only [trestF, e2]; rfl
theorem tintoF_bad {s : ByteArray} {st : St} (h : st.bad = true) : (tintoF s st).2 = st := by
  have e2 : nextF s 62 st = (false, st) := nextF_no (by simp [h])
  simp only [tintoF, e2]; rfl
theorem tstepF_head (s : ByteArray) (st : St) : tstepF s st = (⟨(ptHead s st).1.1, (ptHead s st).1.2.1, (ptHead s st).1.2.2.2.lo, (ptHead s st).1.2.2.2.hi, (trestF s (ptHead s st).2).1.1, (trestF s (ptHead s st).2).1.2.2.1, (trestF s (ptHead s st).2).1.2.2.2, (ptHead s st).1.2.2.1, (trestF s (ptHead s st).2).1.2.1, (tintoF s (trestF s (ptHead s st).2).2).1⟩, (tintoF s (trestF s (ptHead s st).2).2).2) := by
  simp only [tstepF, ptHead, num1_one', boundsF]
theorem ptF_st (s : ByteArray) (st : St) : (ptF s st).2 = (tstepF s st).2 := by
  rw [tstepF_head]
  show (ptInto s (ptRest s (ptHead s st).2).2).2 = _
  cases h : (ptHead s st).2.bad
  · rw [ptRest_good h]
    cases h2 : (trestF s (ptHead s st).2).2.bad
    · rw [ptInto_good h2]
    · rw [ptInto_bad h2, tintoF_bad h2]
  · rw [ptRest_bad h, trestF_bad h, ptInto_bad h, tintoF_bad h]
theorem ptF_val (s : ByteArray) (st : St) (hg : (tstepF s st).2.bad = false) : ptF s st = tstepF s st := by
  rw [tstepF_head] at hg ⊢
  cases h : (ptHead s st).2.bad
  · cases h2 : (trestF s (ptHead s st).2).2.bad
    · simp only [ptF, ptRest_good h, ptInto_good h2]
    · simp only [tintoF_bad h2] at hg
      rw [h2] at hg; cases hg
  · simp only [trestF_bad h, tintoF_bad h] at hg
    rw [h] at hg; cases hg
theorem ptHead_le {s : ByteArray} {st : St} (h : st.pos ≤ s.size) : (ptHead s st).2.pos ≤ s.size :=
  boundsF_le (takeF_le (by omega) (numF_le (takeF_le (by omega) (numF_le (oneF_le (by omega) (takeF_le (by omega) h))))))
theorem ptRest_le {s : ByteArray} {st : St} (h : st.pos ≤ s.size) : (ptRest s st).2.pos ≤ s.size := by
  unfold ptRest
  split
  · exact boundsF_le (takeF_le (by omega) (numF_le (takeF_le (by omega) h)))
  · exact h
theorem ptInto_le {s : ByteArray} {st : St} (h : st.pos ≤ s.size) : (ptInto s st).2.pos ≤ s.size := by
  unfold ptInto
  split
  · exact numF_le (takeF_le (by omega) h)
  · exact h
theorem ptF_le {s : ByteArray} {st : St} (h : st.pos ≤ s.size) : (ptF s st).2.pos ≤ s.size := ptInto_le (ptRest_le (ptHead_le h))
end Hx
end Go.Proofs.YtppcnlkhdgmaiaaGreatDoor
