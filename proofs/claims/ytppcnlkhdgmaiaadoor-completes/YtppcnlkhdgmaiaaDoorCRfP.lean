/- What the document's helpers for orders do: with (a list with one number more, copied). What lies in memory while the document reads a protocol, and what is still to be read. Plain facts on steps with their plates and numbers, for the document's own Check. -/
import Derived.Test.YtppcnlkhdgmaiaaDoorCScA
namespace Go.Proofs.YtppcnlkhdgmaiaaDoor
open Go.RowKit

def ints (xs : List Int) : List Value := xs.map (Value.int .i64)
theorem ints_snoc (xs : List Int) (n : Int) : ints (xs ++ [n]) = ints xs ++ [.int .i64 n] := by simp [ints]
theorem ints_len (xs : List Int) : (ints xs).length = xs.length := by simp [ints]
theorem ints_at (xs : List Int) (k : Nat) (x : Int) (h : xs[k]? = some x) : (ints xs)[k]? = some (.int .i64 x) := by simp [ints, h]
theorem ints_take (xs : List Int) (k : Nat) (x : Int) (h : xs[k]? = some x) : xs.take (k + 1) = xs.take k ++ [x] := by rw [List.take_add_one, h]; rfl

theorem Tryd.info3 : (Tryd.prog.info? 3).map (fun i => (i.zero, i.size, i.bytes)) = some (some (.int .i64 0), 1, 8) := by kernel_rfl

theorem one_news (w : World) (x : Value) (T : TypeId) : ∀ (j : Nat) (u : Value), [x][j]? = some u → (w.alloc (.cells #[x] T)).cell? ((⟨w.heap.size, 0, none⟩ : Addr).add j) = some u := news_new w [x] T

end Go.Proofs.YtppcnlkhdgmaiaaDoor
namespace Go.Proofs.YtppcnlkhdgmaiaaDoor
open Go.RowKit

theorem arr10 (a0 a1 a2 a3 a4 a5 a6 a7 a8 a9 b0 b1 b2 b3 b4 b5 b6 b7 b8 b9 : Value) : ((((((((((#[a0, a1, a2, a3, a4, a5, a6, a7, a8, a9].setIfInBounds 0 b0).setIfInBounds 1 b1).setIfInBounds 2 b2).setIfInBounds 3 b3).setIfInBounds 4 b4).setIfInBounds 5 b5).setIfInBounds 6 b6).setIfInBounds 7 b7).setIfInBounds 8 b8).setIfInBounds 9 b9) = #[b0, b1, b2, b3, b4, b5, b6, b7, b8, b9] := by simp
def mO (s : ByteArray) (st : Hx.St) (on : Bool) : Nat := if st.bad = false ∧ on = true then s.size - st.pos + 1 else 0

/-- What is still to be read, at the head of the loop over plates. -/
structure OutOK (s : ByteArray) (st : Hx.St) (on : Bool) (ps : List (List Hx.Stp)) : Prop where
  bad : st.bad = true → (Hx.protF s).1 = st
  go : st.bad = false → on = true → Hx.platesF s st ps = Hx.protF s
  fin : st.bad = false → on = false → (st, ps) = Hx.protF s

/-- What is still to be read, at the head of the loop over a plate's steps. -/
structure InnOK (s : ByteArray) (n : Nat) (st0 st : Hx.St) (on : Bool) (acc : List Hx.Stp) (rest : Bool) (mn mx : Nat) : Prop where
  bad : st.bad = true → (Hx.plateF s n st0).1 = st
  go : st.bad = false → on = true → Hx.afterF s (Hx.boundsF s st).2 (acc ++ [⟨(Hx.boundsF s st).1.lo, (Hx.boundsF s st).1.hi, rest, mn, mx⟩]) = Hx.plateF s n st0
  fin : st.bad = false → on = false → (st, acc) = Hx.plateF s n st0

theorem out_more {s : ByteArray} {pos pos2 : Nat} {ps : List (List Hx.Stp)} {acc : List Hx.Stp} (hgo : Hx.platesF s ⟨pos, false⟩ ps = Hx.protF s) (hpf : ((⟨pos2, false⟩ : Hx.St), acc) = Hx.plateF s ps.length ⟨pos, false⟩) (h : pos2 < s.size) :
    OutOK s ⟨pos2, false⟩ true (ps ++ [acc]) := by
  refine ⟨fun h => (by cases h), fun _ _ => ?_, fun _ h => (by cases h)⟩
  have e := Hx.platesF_more (s := s) (st := ⟨pos, false⟩) (acc := ps) (by rw [← hpf]) (by rw [← hpf]; exact h)
  rw [← hgo, e, ← hpf]
theorem out_end {s : ByteArray} {pos pos2 : Nat} {ps : List (List Hx.Stp)} {acc : List Hx.Stp} (hgo : Hx.platesF s ⟨pos, false⟩ ps = Hx.protF s) (hpf : ((⟨pos2, false⟩ : Hx.St), acc) = Hx.plateF s ps.length ⟨pos, false⟩) (h : s.size ≤ pos2) :
    OutOK s ⟨pos2, false⟩ false (ps ++ [acc]) := by
  refine ⟨fun h => (by cases h), fun _ h => (by cases h), fun _ _ => ?_⟩
  have e := Hx.platesF_end (s := s) (st := ⟨pos, false⟩) (acc := ps) (by rw [← hpf]) (by rw [← hpf]; exact h)
  rw [← hgo, e, ← hpf]
theorem out_bad {s : ByteArray} {pos pos2 : Nat} {ps qs : List (List Hx.Stp)} {b : Bool} (hgo : Hx.platesF s ⟨pos, false⟩ ps = Hx.protF s) (hpf : (Hx.plateF s ps.length ⟨pos, false⟩).1 = ⟨pos2, true⟩) :
    OutOK s ⟨pos2, true⟩ b qs := by
  refine ⟨fun _ => ?_, fun h => (by cases h), fun h => (by cases h)⟩
  have e := Hx.platesF_bad (s := s) (st := ⟨pos, false⟩) (acc := ps) (by rw [hpf])
  rw [← hgo, e, hpf]
theorem six_of {s : ByteArray} {n pos pos2 : Nat} {acc : List Hx.Stp} (hpf : ((⟨pos2, false⟩ : Hx.St), acc) = Hx.plateF s n ⟨pos, false⟩) : pos + 6 ≤ pos2 := by
  have h := (Hx.plateF_six (s := s) (n := n) (st := ⟨pos, false⟩) (by rw [← hpf])).2
  rw [← hpf] at h
  exact h
theorem lab_len (i : Nat) (p : List Hx.Stp) : (Hx.lab i p).length = p.length := by simp [Hx.lab]
theorem tot_snoc {ps : List (List Hx.Stp)} {acc : List Hx.Stp} {p : Nat} (h : (Hx.labs ps).length + acc.length ≤ p) : (Hx.labs (ps ++ [acc])).length ≤ p := by
  rw [Hx.labs_snoc, List.length_append, lab_len]; exact h
theorem mO_lt {s : ByteArray} {pos pos2 : Nat} (h : pos < pos2) (h2 : pos2 ≤ s.size) : mO s ⟨pos2, false⟩ true < mO s ⟨pos, false⟩ true := by simp [mO]; omega
theorem mO_zero {s : ByteArray} {pos : Nat} {st : Hx.St} {on : Bool} (h : st.bad = true ∨ on = false) : mO s st on < mO s ⟨pos, false⟩ true := by
  have : ¬ (st.bad = false ∧ on = true) := by rcases h with h | h <;> simp [h]
  simp [mO, this]
theorem mO_any {s : ByteArray} {pos : Nat} {st : Hx.St} {on : Bool} (h : st.bad = false → on = true → pos < st.pos) (h2 : st.pos ≤ s.size) : mO s st on < mO s ⟨pos, false⟩ true := by
  by_cases g : st.bad = false ∧ on = true
  · have := h g.1 g.2
    simp [mO, g]; omega
  · simp [mO, g]
theorem inn_start (s : ByteArray) (n : Nat) (st : Hx.St) : InnOK s n st (Hx.openF s n st) true [] false 0 0 := by
  refine ⟨fun hb => ?_, fun _ _ => rfl, fun _ h => (by cases h)⟩
  unfold Hx.plateF
  rw [Hx.boundsF_bad hb, Hx.afterF_bad hb]
theorem inn_comma {s : ByteArray} {n p : Nat} {st0 : Hx.St} {acc : List Hx.Stp} (hgo : Hx.afterF s ⟨p, false⟩ acc = Hx.plateF s n st0) (h : Hx.byteAt s p = 44) : InnOK s n st0 ⟨p + 1, false⟩ true acc false 0 0 :=
  ⟨fun h => (by cases h), fun _ _ => (Hx.afterF_comma (st := ⟨p, false⟩) rfl h).symm.trans hgo, fun _ h => (by cases h)⟩
theorem inn_rest {s : ByteArray} {n p : Nat} {st0 : Hx.St} {acc : List Hx.Stp} (hgo : Hx.afterF s ⟨p, false⟩ acc = Hx.plateF s n st0) (h : Hx.byteAt s p = 126) :
    InnOK s n st0 (Hx.takeF s 126 (Hx.boundsF s ⟨p + 1, false⟩).2) true acc true (Hx.boundsF s ⟨p + 1, false⟩).1.lo (Hx.boundsF s ⟨p + 1, false⟩).1.hi := by
  have e := (Hx.afterF_rest (s := s) (st := ⟨p, false⟩) (acc := acc) rfl h).symm.trans hgo
  have er : Hx.restF s ⟨p, false⟩ = (⟨(Hx.boundsF s (Hx.takeF s 126 (Hx.boundsF s ⟨p + 1, false⟩).2)).1.lo, (Hx.boundsF s (Hx.takeF s 126 (Hx.boundsF s ⟨p + 1, false⟩).2)).1.hi, true, (Hx.boundsF s ⟨p + 1, false⟩).1.lo, (Hx.boundsF s ⟨p + 1, false⟩).1.hi⟩, (Hx.boundsF s (Hx.takeF s 126 (Hx.boundsF s ⟨p + 1, false⟩).2)).2) := by
    unfold Hx.restF
    rw [Hx.takeF_yes (st := ⟨p, false⟩) rfl h]
  rw [er] at e
  refine ⟨fun hb => ?_, fun _ _ => e, fun _ h => (by cases h)⟩
  rw [Hx.boundsF_bad hb, Hx.afterF_bad hb] at e
  rw [← e]
theorem inn_stop {s : ByteArray} {n : Nat} {st0 st3 : Hx.St} {acc : List Hx.Stp} (hgo : Hx.afterF s st3 acc = Hx.plateF s n st0) (h : st3.bad = true ∨ (Hx.byteAt s st3.pos ≠ 44 ∧ Hx.byteAt s st3.pos ≠ 126)) : InnOK s n st0 st3 false acc false 0 0 := by
  have e : Hx.afterF s st3 acc = (st3, acc) := by
    rcases h with h | ⟨h1, h2⟩
    · exact Hx.afterF_bad h
    · exact Hx.afterF_stop h1 h2
  rw [e] at hgo
  exact ⟨fun _ => by rw [← hgo], fun _ h => (by cases h), fun _ _ => hgo⟩
theorem start_tot {s : ByteArray} {n pos t : Nat} (h : t ≤ pos) : t + ([] : List Hx.Stp).length ≤ (Hx.openF s n ⟨pos, false⟩).pos := by
  have h1 := Hx.openF_ge s n ⟨pos, false⟩
  have h2 := Hx.takeF_ge s 59 ⟨pos, false⟩
  simp only [List.length_nil] at *; omega
theorem start_tot2 {s : ByteArray} {n pos t : Nat} (h : t ≤ pos) (hg : (Hx.openF s n ⟨pos, false⟩).bad = false) : t + ([] : List Hx.Stp).length + 1 ≤ (Hx.openF s n ⟨pos, false⟩).pos := by
  have h1 := (Hx.openF_good hg).2
  simp only [List.length_nil] at *; omega

end Go.Proofs.YtppcnlkhdgmaiaaDoor
namespace Go.Proofs.YtppcnlkhdgmaiaaDoor
open Go.RowKit

theorem lstsCells_at (l : List Hx.Lst) (j : Nat) (y : Hx.Lst) (h : l[j]? = some y) (t : Nat) (ht : t < 10) : (lstsCells l)[j * 10 + t]? = (lstCells y)[t]? := by
  induction l generalizing j with
  | nil => simp at h
  | cons z r ih =>
    have e : lstsCells (z :: r) = lstCells z ++ lstsCells r := rfl
    rw [e]
    have hl : (lstCells z).length = 10 := rfl
    cases j with
    | zero =>
      simp at h
      subst h
      rw [Nat.zero_mul, Nat.zero_add, List.getElem?_append_left (by omega)]
    | succ j =>
      rw [List.getElem?_append_right (by omega), hl, show (j + 1) * 10 + t - 10 = j * 10 + t by omega]
      exact ih j (by simpa using h)

namespace Hx
theorem firstWrong_labs (k : Nat) (ps : List (List Stp)) : firstWrong k ps = (labs ps).findIdx? (fun y => wrongB k y.x) := by
  unfold firstWrong
  rw [← labs_x, List.findIdx?_map]
  rfl
theorem lab_no {i : Nat} {p : List Stp} {y : Lst} (h : y ∈ lab i p) : y.no < p.length := by
  obtain ⟨n, hn⟩ := List.getElem?_of_mem h
  simp only [lab, List.getElem?_mapIdx] at hn
  cases hp : p[n]? with
  | none => rw [hp] at hn; cases hn
  | some x =>
    rw [hp] at hn
    simp at hn
    rw [← hn]
    show n < p.length
    by_cases e : n < p.length
    · exact e
    · rw [List.getElem?_eq_none (by omega)] at hp; cases hp
theorem lab_has {i : Nat} {p : List Stp} {n : Nat} (h : n < p.length) : ∃ y ∈ lab i p, y.no = n := by
  refine ⟨⟨i, n, p[n]⟩, ?_, rfl⟩
  apply List.mem_of_getElem? (i := n)
  simp [lab, h]
theorem labs_mem (ps : List (List Stp)) (y : Lst) : y ∈ labs ps ↔ ∃ i p, ps[i]? = some p ∧ y ∈ lab i p := by
  unfold labs
  rw [List.mem_flatten]
  constructor
  · rintro ⟨l, hl, hy⟩
    obtain ⟨i, hi⟩ := List.getElem?_of_mem hl
    rw [List.getElem?_mapIdx] at hi
    cases hp : ps[i]? with
    | none => rw [hp] at hi; cases hi
    | some p =>
      rw [hp] at hi
      simp at hi
      exact ⟨i, p, hp, by rw [hi]; exact hy⟩
  · rintro ⟨i, p, hp, hy⟩
    refine ⟨lab i p, ?_, hy⟩
    apply List.mem_of_getElem? (i := i)
    rw [List.getElem?_mapIdx, hp]; rfl
/-- A plate has more than five steps just if some step's number is five or more. -/
theorem many_labs (ps : List (List Stp)) : ps.any (fun p => decide (5 < p.length)) = (labs ps).any (fun y => decide (5 ≤ y.no)) := by
  rw [Bool.eq_iff_iff, List.any_eq_true, List.any_eq_true]
  constructor
  · rintro ⟨p, hp, h⟩
    obtain ⟨i, hi⟩ := List.getElem?_of_mem hp
    obtain ⟨y, hy, hn⟩ := lab_has (i := i) (p := p) (n := 5) (by simpa using h)
    exact ⟨y, (labs_mem ps y).2 ⟨i, p, hi, hy⟩, by simp [hn]⟩
  · rintro ⟨y, hy, h⟩
    obtain ⟨i, p, hp, hm⟩ := (labs_mem ps y).1 hy
    have := lab_no hm
    refine ⟨p, List.mem_of_getElem? hp, ?_⟩
    simp at h ⊢
    omega
theorem manyB_labs (ps : List (List Stp)) : manyB ps = ((labs ps).any (fun y => decide (5 ≤ y.no)) || decide (4 < ps.length) || decide (9 < (labs ps).length)) := by
  rw [manyB, many_labs, labs_len]
theorem wrong_true {k : Nat} {lo hi mn mx : Nat} {rest : Bool} (h : wrongB k ⟨lo, hi, rest, mn, mx⟩ = true) :
    (((lo : Int) == 0) = true) ∨ (((lo : Int) == 0) = false ∧ (hi : Int) < (lo : Int)) ∨ (((lo : Int) == 0) = false ∧ ¬ (hi : Int) < (lo : Int) ∧ rest = true ∧ (mx : Int) < (mn : Int)) ∨
    (((lo : Int) == 0) = false ∧ ¬ (hi : Int) < (lo : Int) ∧ rest = true ∧ ¬ (mx : Int) < (mn : Int) ∧ ((k : Int) == 0) = true) := by
  simp only [wrongB, Bool.or_eq_true, beq_iff_eq, decide_eq_true_eq, Bool.and_eq_true] at h
  by_cases h1 : lo = 0
  · exact Or.inl (by simp [h1])
  · have e1 : ((lo : Int) == 0) = false := by simp; omega
    by_cases h2 : hi < lo
    · exact Or.inr (Or.inl ⟨e1, by omega⟩)
    · by_cases h3 : mx < mn
      · refine Or.inr (Or.inr (Or.inl ⟨e1, by omega, ?_, by omega⟩))
        rcases h with (h | h) | h
        · exact absurd h h1
        · exact absurd h h2
        · exact h.1
      · refine Or.inr (Or.inr (Or.inr ⟨e1, by omega, ?_, by omega, ?_⟩))
        · rcases h with (h | h) | h
          · exact absurd h h1
          · exact absurd h h2
          · exact h.1
        · rcases h with (h | h) | ⟨_, h | h⟩
          · exact absurd h h1
          · exact absurd h h2
          · simp [h]
          · exact absurd h h3
theorem wrong_false {k : Nat} {lo hi mn mx : Nat} {rest : Bool} (h : wrongB k ⟨lo, hi, rest, mn, mx⟩ = false) :
    ((lo : Int) == 0) = false ∧ ¬ (hi : Int) < (lo : Int) ∧ (rest = false ∨ (rest = true ∧ ¬ (mx : Int) < (mn : Int) ∧ ((k : Int) == 0) = false)) := by
  simp only [wrongB, Bool.or_eq_false_iff, beq_eq_false_iff_ne, decide_eq_false_iff_not, Bool.and_eq_false_iff] at h
  obtain ⟨⟨h1, h2⟩, h3⟩ := h
  refine ⟨by simp; omega, by omega, ?_⟩
  rcases h3 with h3 | ⟨h3, h4⟩
  · exact Or.inl h3
  · cases rest
    · exact Or.inl rfl
    · exact Or.inr ⟨rfl, by omega, by simp; omega⟩
theorem first_lab {k : Nat} {ps : List (List Stp)} {j : Nat} {y : Lst} (hy : (labs ps)[j]? = some y) (h1 : ∀ z ∈ (labs ps).take j, wrongB k z.x = false) (hw : wrongB k y.x = true) : firstWrong k ps = some j := by
  have hj : j ≤ (labs ps).length := by
    by_cases e : j < (labs ps).length
    · omega
    · rw [List.getElem?_eq_none (by omega)] at hy; cases hy
  rw [firstWrong_labs]
  conv => lhs; rw [cons_split (labs ps) j y hy]
  rw [List.findIdx?_append, List.findIdx?_eq_none_iff.2 h1, Option.none_or, List.findIdx?_cons, if_pos hw]
  simp [Nat.min_eq_left hj]
theorem first_lab_none {k : Nat} {ps : List (List Stp)} (h1 : ∀ z ∈ labs ps, wrongB k z.x = false) : firstWrong k ps = none := by
  rw [firstWrong_labs]; exact List.findIdx?_eq_none_iff.2 h1
theorem many_lab {ps : List (List Stp)} {y : Lst} (hy : y ∈ labs ps) (h : 5 ≤ y.no) : manyB ps = true := by
  have : (labs ps).any (fun y => decide (5 ≤ y.no)) = true := List.any_eq_true.2 ⟨y, hy, by simpa using h⟩
  simp [manyB_labs, this]
theorem many_lab_end {ps : List (List Stp)} (h : ∀ z ∈ labs ps, ¬ 5 ≤ z.no) : manyB ps = (decide (4 < ps.length) || decide (9 < (labs ps).length)) := by
  have : (labs ps).any (fun y => decide (5 ≤ y.no)) = false := by
    rw [List.any_eq_false]
    intro y hy
    simpa using h y hy
  rw [manyB_labs, this, Bool.false_or]
theorem labs_pos {ps : List (List Stp)} (h : 0 < ps.length) (hne : ∀ p ∈ ps, 0 < p.length) : 0 < (labs ps).length := by
  rw [labs_len]
  cases ps with
  | nil => simp at h
  | cons p r =>
    have := hne p (by simp)
    simp only [List.flatten_cons, List.length_append]
    omega
theorem take_mem_snoc {l : List Lst} {j : Nat} {y : Lst} (hy : l[j]? = some y) {P : Lst → Prop} (h1 : ∀ z ∈ l.take j, P z) (h2 : P y) : ∀ z ∈ l.take (j + 1), P z := by
  intro z hz
  rw [List.take_add_one, hy] at hz
  simp at hz
  rcases hz with hz | rfl
  · exact h1 z hz
  · exact h2
end Hx

end Go.Proofs.YtppcnlkhdgmaiaaDoor
