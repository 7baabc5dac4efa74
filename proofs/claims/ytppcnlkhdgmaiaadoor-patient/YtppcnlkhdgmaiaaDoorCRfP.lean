/- What the document's test of a table's step does: holds, right. Plain facts on steps with their plates and numbers, for the document's own Check. -/
import Derived.Test.YtppcnlkhdgmaiaaDoorCRgE
import Derived.Test.YtppcnlkhdgmaiaaDoorCRfD
namespace Go.Proofs.YtppcnlkhdgmaiaaDoor
open Go.RowKit


theorem tssCells_at (l : List Hx.TStp) (j : Nat) (y : Hx.TStp) (h : l[j]? = some y) (t : Nat) (ht : t < 10) : (tssCells l)[j * 10 + t]? = (tsCells y)[t]? := by
  induction l generalizing j with
  | nil => simp at h
  | cons z r ih =>
    have e : tssCells (z :: r) = tsCells z ++ tssCells r := rfl
    rw [e]
    have hl : (tsCells z).length = 10 := rfl
    cases j with
    | zero =>
      simp at h
      subst h
      rw [Nat.zero_mul, Nat.zero_add, List.getElem?_append_left (by omega)]
    | succ j =>
      rw [List.getElem?_append_right (by omega), hl, show (j + 1) * 10 + t - 10 = j * 10 + t by omega]
      exact ih j (by simpa using h)
end Go.Proofs.YtppcnlkhdgmaiaaDoor
namespace Go.Proofs.YtppcnlkhdgmaiaaDoor
open Go.RowKit

theorem lstsCells_at (l : List Hx.Lst) (j : Nat) (y : Hx.Lst) (h : l[j]? = some y) (t : Nat) (ht : t < 10) : (lstsCells l)[j * 10 + t]? = (lstCells y)[t]? := by
  induction l generalizing j with
  | nil => simp at h
  | cons z r ih =>
    have e : lstsCells (z :: r) = lstCells z ++ lstsCells r := rfl
    rw [e]
    have hl : (lstCells z).length = 10 := rfl
    cases j with
    | zero =>
      simp at h
      subst h
      rw [Nat.zero_mul, Nat.zero_add, List.getElem?_append_left (by omega)]
    | succ j =>
      rw [List.getElem?_append_right (by omega), hl, show (j + 1) * 10 + t - 10 = j * 10 + t by omega]
      exact ih j (by simpa using h)

namespace Hx
theorem firstWrong_labs (k : Nat) (ps : List (List Stp)) : firstWrong k ps = (labs ps).findIdx? (fun y => wrongB k y.x) := by
  unfold firstWrong
  rw [← labs_x, List.findIdx?_map]
  rfl
theorem lab_no {i : Nat} {p : List Stp} {y : Lst} (h : y ∈ lab i p) : y.no < p.length := by
  obtain ⟨n, hn⟩ := List.getElem?_of_mem h
  simp only [lab, List.getElem?_mapIdx] at hn
  cases hp : p[n]? with
  | none => rw [hp] at hn; cases hn
  | some x =>
    rw [hp] at hn
    simp at hn
    rw [← hn]
    show n < p.length
    by_cases e : n < p.length
    · exact e
    · rw [List.getElem?_eq_none (by omega)] at hp; cases hp
theorem lab_has {i : Nat} {p : List Stp} {n : Nat} (h : n < p.length) : ∃ y ∈ lab i p, y.no = n := by
  refine ⟨⟨i, n, p[n]⟩, ?_, rfl⟩
  apply List.mem_of_getElem? (i := n)
  simp [lab, h]
theorem labs_mem (ps : List (List Stp)) (y : Lst) : y ∈ labs ps ↔ ∃ i p, ps[i]? = some p ∧ y ∈ lab i p := by
  unfold labs
  rw [List.mem_flatten]
  constructor
  · rintro ⟨l, hl, hy⟩
    obtain ⟨i, hi⟩ := List.getElem?_of_mem hl
    rw [List.getElem?_mapIdx] at hi
    cases hp : ps[i]? with
    | none => rw [hp] at hi; cases hi
    | some p =>
      rw [hp] at hi
      simp at hi
      exact ⟨i, p, hp, by rw [hi]; exact hy⟩
  · rintro ⟨i, p, hp, hy⟩
    refine ⟨lab i p, ?_, hy⟩
    apply List.mem_of_getElem? (i := i)
    rw [List.getElem?_mapIdx, hp]; rfl
/-- A plate has more than five steps just if some step's number is five or more. -/
theorem many_labs (ps : List (List Stp)) : ps.any (fun p => decide (5 < p.length)) = (labs ps).any (fun y => decide (5 ≤ y.no)) := by
  rw [Bool.eq_iff_iff, List.any_eq_true, List.any_eq_true]
  constructor
  · rintro ⟨p, hp, h⟩
    obtain ⟨i, hi⟩ := List.getElem?_of_mem hp
    obtain ⟨y, hy, hn⟩ := lab_has (i := i) (p := p) (n := 5) (by simpa using h)
    exact ⟨y, (labs_mem ps y).2 ⟨i, p, hi, hy⟩, by simp [hn]⟩
  · rintro ⟨y, hy, h⟩
    obtain ⟨i, p, hp, hm⟩ := (labs_mem ps y).1 hy
    have := lab_no hm
    refine ⟨p, List.mem_of_getElem? hp, ?_⟩
    simp at h ⊢
    omega
theorem manyB_labs (ps : List (List Stp)) : manyB ps = ((labs ps).any (fun y => decide (5 ≤ y.no)) || decide (4 < ps.length) || decide (9 < (labs ps).length)) := by
  rw [manyB, many_labs, labs_len]
theorem wrong_true {k : Nat} {lo hi mn mx : Nat} {rest : Bool} (h : wrongB k ⟨lo, hi, rest, mn, mx⟩ = true) :
    (((lo : Int) == 0) = true) ∨ (((lo : Int) == 0) = false ∧ (hi : Int) < (lo : Int)) ∨ (((lo : Int) == 0) = false ∧ ¬ (hi : Int) < (lo : Int) ∧ rest = true ∧ (mx : Int) < (mn : Int)) ∨
    (((lo : Int) == 0) = false ∧ ¬ (hi : Int) < (lo : Int) ∧ rest = true ∧ ¬ (mx : Int) < (mn : Int) ∧ ((k : Int) == 0) = true) := by
  simp only [wrongB, Bool.or_eq_true, beq_iff_eq, decide_eq_true_eq, Bool.and_eq_true] at h
  by_cases h1 : lo = 0
  · exact Or.inl (by simp [h1])
  · have e1 : ((lo : Int) == 0) = false := by simp; omega
    by_cases h2 : hi < lo
    · exact Or.inr (Or.inl ⟨e1, by omega⟩)
    · by_cases h3 : mx < mn
      · refine Or.inr (Or.inr (Or.inl ⟨e1, by omega, ?_, by omega⟩))
        rcases h with (h | h) | h
        · exact absurd h h1
        · exact absurd h h2
        · exact h.1
      · refine Or.inr (Or.inr (Or.inr ⟨e1, by omega, ?_, by omega, ?_⟩))
        · rcases h with (h | h) | h
          · exact absurd h h1
          · exact absurd h h2
          · exact h.1
        · rcases h with (h | h) | ⟨_, h | h⟩
          · exact absurd h h1
          · exact absurd h h2
          · simp [h]
          · exact absurd h h3
theorem wrong_false {k : Nat} {lo hi mn mx : Nat} {rest : Bool} (h : wrongB k ⟨lo, hi, rest, mn, mx⟩ = false) :
    ((lo : Int) == 0) = false ∧ ¬ (hi : Int) < (lo : Int) ∧ (rest = false ∨ (rest = true ∧ ¬ (mx : Int) < (mn : Int) ∧ ((k : Int) == 0) = false)) := by
  simp only [wrongB, Bool.or_eq_false_iff, beq_eq_false_iff_ne, decide_eq_false_iff_not, Bool.and_eq_false_iff] at h
  obtain ⟨⟨h1, h2⟩, h3⟩ := h
  refine ⟨by simp; omega, by omega, ?_⟩
  rcases h3 with h3 | ⟨h3, h4⟩
  · exact Or.inl h3
  · cases rest
    · exact Or.inl rfl
    · exact Or.inr ⟨rfl, by omega, by simp; omega⟩
theorem first_lab {k : Nat} {ps : List (List Stp)} {j : Nat} {y : Lst} (hy : (labs ps)[j]? = some y) (h1 : ∀ z ∈ (labs ps).take j, wrongB k z.x = false) (hw : wrongB k y.x = true) : firstWrong k ps = some j := by
  have hj : j ≤ (labs ps).length := by
    by_cases e : j < (labs ps).length
    · omega
    · rw [List.getElem?_eq_none (by omega)] at hy; cases hy
  rw [firstWrong_labs]
  conv => lhs; rw [cons_split (labs ps) j y hy]
  rw [List.findIdx?_append, List.findIdx?_eq_none_iff.2 h1, Option.none_or, List.findIdx?_cons, if_pos hw]
  simp [Nat.min_eq_left hj]
theorem first_lab_none {k : Nat} {ps : List (List Stp)} (h1 : ∀ z ∈ labs ps, wrongB k z.x = false) : firstWrong k ps = none := by
  rw [firstWrong_labs]; exact List.findIdx?_eq_none_iff.2 h1
theorem many_lab {ps : List (List Stp)} {y : Lst} (hy : y ∈ labs ps) (h : 5 ≤ y.no) : manyB ps = true := by
  have : (labs ps).any (fun y => decide (5 ≤ y.no)) = true := List.any_eq_true.2 ⟨y, hy, by simpa using h⟩
  simp [manyB_labs, this]
theorem many_lab_end {ps : List (List Stp)} (h : ∀ z ∈ labs ps, ¬ 5 ≤ z.no) : manyB ps = (decide (4 < ps.length) || decide (9 < (labs ps).length)) := by
  have : (labs ps).any (fun y => decide (5 ≤ y.no)) = false := by
    rw [List.any_eq_false]
    intro y hy
    simpa using h y hy
  rw [manyB_labs, this, Bool.false_or]
theorem labs_pos {ps : List (List Stp)} (h : 0 < ps.length) (hne : ∀ p ∈ ps, 0 < p.length) : 0 < (labs ps).length := by
  rw [labs_len]
  cases ps with
  | nil => simp at h
  | cons p r =>
    have := hne p (by simp)
    simp only [List.flatten_cons, List.length_append]
    omega
theorem take_mem_snoc {l : List Lst} {j : Nat} {y : Lst} (hy : l[j]? = some y) {P : Lst → Prop} (h1 : ∀ z ∈ l.take j, P z) (h2 : P y) : ∀ z ∈ l.take (j + 1), P z := by
  intro z hz
  rw [List.take_add_one, hy] at hz
  simp at hz
  rcases hz with hz | rfl
  · exact h1 z hz
  · exact h2
end Hx

end Go.Proofs.YtppcnlkhdgmaiaaDoor
