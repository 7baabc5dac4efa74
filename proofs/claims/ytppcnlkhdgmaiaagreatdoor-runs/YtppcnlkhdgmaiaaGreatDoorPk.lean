/- The plain mathematics of which table is right: what the program keeps (how many steps of each plate are done, where each plate stays) against the document's. No program is named here. -/
import Derived.Test.YtppcnlkhdgmaiaaGreatDoorPg
namespace Go.Proofs.YtppcnlkhdgmaiaaGreatDoor
namespace Hx

/-- What holds of every step of a table that was read. -/
structure TOk (y : TStp) : Prop where
  pl : y.pl < 4
  no : y.no < 10
  lo : y.lo < 1000
  hi : y.hi < 1000
  mn : y.mn < 1000
  mx : y.mx < 1000
  t : y.t < 100000
  norest : y.rest = false → y.mn = 0 ∧ y.mx = 0 ∧ y.out = -1
  rest : y.rest = true → 0 ≤ y.out ∧ y.out ≤ 9
  inn0 : -1 ≤ y.inn
  inn1 : y.inn ≤ 9

theorem oneF_val {s : ByteArray} {lo hi : Nat} {st : St} : (oneF s lo hi st).1 ≤ hi - lo := by
  unfold oneF
  split
  · simp
  · rename_i g
    simp only
    omega
theorem trestF_ok (s : ByteArray) (st : St) : (trestF s st).1.2.2.1 < 1000 ∧ (trestF s st).1.2.2.2 < 1000 ∧ ((trestF s st).1.1 = false → (trestF s st).1.2.2.1 = 0 ∧ (trestF s st).1.2.2.2 = 0 ∧ (trestF s st).1.2.1 = -1) ∧ ((trestF s st).1.1 = true → 0 ≤ (trestF s st).1.2.1 ∧ (trestF s st).1.2.1 ≤ 9) := by
  by_cases hb : (nextF s 60 st).1 = true
  · simp only [trestF, if_pos hb]
    refine ⟨numF_val s 3 _, numF_val s 3 _, (fun h => absurd h (by decide)), fun _ => ⟨by omega, ?_⟩⟩
    have := oneF_val (s := s) (lo := 48) (hi := 57) (st := (nextF s 60 st).2)
    omega
  · simp only [trestF, if_neg hb]
    simp
theorem tintoF_ok (s : ByteArray) (st : St) : -1 ≤ (tintoF s st).1 ∧ (tintoF s st).1 ≤ 9 := by
  by_cases hb : (nextF s 62 st).1 = true
  · simp only [tintoF, if_pos hb]
    have := oneF_val (s := s) (lo := 48) (hi := 57) (st := (nextF s 62 st).2)
    omega
  · simp only [tintoF, if_neg hb]
    omega
theorem tstepF_ok (s : ByteArray) (st : St) : TOk (tstepF s st).1 := by
  have a1 := oneF_val (s := s) (lo := 97) (hi := 100) (st := takeF s 59 st)
  have a2 := oneF_val (s := s) (lo := 48) (hi := 57) (st := (oneF s 97 100 (takeF s 59 st)).2)
  refine ⟨?_, ?_, numF_val s 3 _, numF_val s 3 _, (trestF_ok s _).1, (trestF_ok s _).2.1, numF_val s 5 _, (trestF_ok s _).2.2.1, (trestF_ok s _).2.2.2, (tintoF_ok s _).1, (tintoF_ok s _).2⟩
  · show (oneF s 97 100 (takeF s 59 st)).1 < 4; omega
  · show (oneF s 48 57 (oneF s 97 100 (takeF s 59 st)).2).1 < 10; omega
theorem tablesF_ok (s : ByteArray) (st : St) (acc : List TStp) (h : ∀ y ∈ acc, TOk y) : ∀ y ∈ (tablesF s st acc).2, TOk y := by
  induction st, acc using tablesF.induct (s := s) with
  | case1 st acc hc ih =>
    rw [tablesF, dif_pos hc]
    refine ih ?_
    intro y hy
    rcases List.mem_append.1 hy with hy | hy
    · exact h y hy
    · rw [List.mem_singleton.1 hy]; exact tstepF_ok s st
  | case2 st acc hc =>
    rw [tablesF, dif_neg hc]
    exact h
theorem tableF_ok (s : ByteArray) : ∀ y ∈ (tableF s).2, TOk y := tablesF_ok s _ [] (fun _ h => by cases h)

/-- How many steps of each of four plates are done, and where each stays. -/
def doneL (l : List TStp) : List Int := (List.range 4).map fun p => ((holdF l p).2 : Int)
def staysL (l : List TStp) : List Int := (List.range 4).map fun p => (holdF l p).1
theorem doneL_len (l : List TStp) : (doneL l).length = 4 := by simp [doneL]
theorem staysL_len (l : List TStp) : (staysL l).length = 4 := by simp [staysL]
theorem doneL_nil : doneL [] = [0, 0, 0, 0] := by decide
theorem staysL_nil : staysL [] = [-1, -1, -1, -1] := by decide
theorem doneL_get (l : List TStp) {p : Nat} (h : p < 4) : (doneL l)[p]? = some ((holdF l p).2 : Int) := by simp [doneL, h]
theorem staysL_get (l : List TStp) {p : Nat} (h : p < 4) : (staysL l)[p]? = some (holdF l p).1 := by simp [staysL, h]
theorem doneL_snoc (l : List TStp) (y : TStp) : doneL (l ++ [y]) = (doneL l).set y.pl ((holdF l y.pl).2 + 1 : Int) := by
  apply List.ext_getElem?
  intro i
  rw [List.getElem?_set]
  by_cases hi : i < 4
  · rw [doneL_get _ hi, holdF_snoc]
    by_cases e : y.pl = i
    · subst e; rw [if_pos rfl, if_pos rfl, doneL_len, if_pos hi]; simp
    · rw [if_neg e, if_neg e, doneL_get _ hi]
  · have h1 : (doneL (l ++ [y]))[i]? = none := List.getElem?_eq_none (by rw [doneL_len]; omega)
    have h2 : (doneL l)[i]? = none := List.getElem?_eq_none (by rw [doneL_len]; omega)
    rw [h1, h2]
    split
    · rw [doneL_len, if_neg (by omega)]
    · rfl
theorem staysL_snoc (l : List TStp) (y : TStp) : staysL (l ++ [y]) = (staysL l).set y.pl y.inn := by
  apply List.ext_getElem?
  intro i
  rw [List.getElem?_set]
  by_cases hi : i < 4
  · rw [staysL_get _ hi, holdF_snoc]
    by_cases e : y.pl = i
    · subst e; rw [if_pos rfl, if_pos rfl, staysL_len, if_pos hi]
    · rw [if_neg e, if_neg e, staysL_get _ hi]
  · have h1 : (staysL (l ++ [y]))[i]? = none := List.getElem?_eq_none (by rw [staysL_len]; omega)
    have h2 : (staysL l)[i]? = none := List.getElem?_eq_none (by rw [staysL_len]; omega)
    rw [h1, h2]
    split
    · rw [staysL_len, if_neg (by omega)]
    · rfl

/-- Does a step fit to where the plates stay? -/
def clashL (zs : List Int) (y : TStp) (a : Nat) : Bool := !(a == y.pl) && (decide (0 ≤ y.inn) && zs.getD a 0 == y.inn)
def tfitF (zs : List Int) (y : TStp) : Bool := y.out == zs.getD y.pl 0 && (List.range zs.length).all fun a => !clashL zs y a

theorem wrongB_ok {y : TStp} (h : TOk y) : wrongB 10 ⟨y.lo, y.hi, y.rest, y.mn, y.mx⟩ = (y.lo == 0 || decide (y.hi < y.lo) || decide (y.mx < y.mn)) := by
  cases hr : y.rest
  · obtain ⟨a, b, _⟩ := h.norest hr
    simp [wrongB, a, b]
  · simp [wrongB]
theorem staysL_getD (l : List TStp) {p : Nat} (h : p < 4) : (staysL l).getD p 0 = (holdF l p).1 := by
  rw [List.getD_eq_getElem?_getD, staysL_get l h]; rfl

/-- The program's test of a step is the document's. -/
theorem right_is {l : List TStp} {i : Nat} {y : TStp} (hy : l[i]? = some y) (h : TOk y) :
    rightF l i = (((y.no : Int) == ((holdF (l.take i) y.pl).2 : Int)) && !wrongB 10 ⟨y.lo, y.hi, y.rest, y.mn, y.mx⟩ && tfitF (staysL (l.take i)) y) := by
  have e1 : rightF l i = (ownRight l i y && (List.range 4).all fun a => !clash l i y a) := by simp only [rightF, hy]
  have e2 : ((List.range 4).all fun a => !clash l i y a) = ((List.range 4).all fun a => !clashL (staysL (l.take i)) y a) := by
    have : ∀ a ∈ List.range 4, (!clash l i y a) = (!clashL (staysL (l.take i)) y a) := by
      intro a ha
      have ha := List.mem_range.1 ha
      simp only [clash, clashL, staysL_getD _ ha]
    rw [Bool.eq_iff_iff, List.all_eq_true, List.all_eq_true]
    exact ⟨fun g a ha => by rw [← this a ha]; exact g a ha, fun g a ha => by rw [this a ha]; exact g a ha⟩
  have e3 : ((y.no : Int) == ((holdF (l.take i) y.pl).2 : Int)) = (y.no == (holdF (l.take i) y.pl).2) := by
    rw [Bool.eq_iff_iff, beq_iff_eq, beq_iff_eq]; omega
  rw [e1, e2, e3, wrongB_ok h, tfitF, staysL_len, staysL_getD _ h.pl, ownRight]
  cases (y.no == (holdF (l.take i) y.pl).2) <;> cases (y.lo == 0) <;> cases (decide (y.hi < y.lo)) <;> cases (decide (y.mx < y.mn)) <;> simp

theorem wrongF_step {l : List TStp} {k : Nat} (h : k < l.length) : wrongF l k = if rightF l k then wrongF l (k + 1) else (9, (k : Int)) := by
  rw [wrongF, if_pos h]
theorem wrongF_end {l : List TStp} {k : Nat} (h : ¬ k < l.length) : wrongF l k = (0, 0) := by
  rw [wrongF, if_neg h]
end Hx
end Go.Proofs.YtppcnlkhdgmaiaaGreatDoor
