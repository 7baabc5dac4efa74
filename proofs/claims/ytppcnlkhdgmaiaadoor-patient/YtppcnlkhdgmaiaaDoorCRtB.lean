/- The plain mathematics of which table is right: what the program keeps (how many steps of each plate are done, where each plate stays) against the document's. No program is named here. What reading a whole table does: readTable answers the parsed table, or the place at which the text ceases to be one. -/
import Derived.Test.YtppcnlkhdgmaiaaDoorCPg
import Derived.Test.YtppcnlkhdgmaiaaDoorCRtA
namespace Go.Proofs.YtppcnlkhdgmaiaaDoor
namespace Hx

/-- What holds of every step of a table that was read. -/
structure TOk (y : TStp) : Prop where
  pl : y.pl < 4
  no : y.no < 10
  lo : y.lo < 1000
  hi : y.hi < 1000
  mn : y.mn < 1000
  mx : y.mx < 1000
  t : y.t < 100000
  norest : y.rest = false → y.mn = 0 ∧ y.mx = 0 ∧ y.out = -1
  rest : y.rest = true → 0 ≤ y.out ∧ y.out ≤ 9
  inn0 : -1 ≤ y.inn
  inn1 : y.inn ≤ 9

theorem oneF_val {s : ByteArray} {lo hi : Nat} {st : St} : (oneF s lo hi st).1 ≤ hi - lo := by
  unfold oneF
  split
  · simp
  · rename_i g
    simp only
    omega
theorem trestF_ok (s : ByteArray) (st : St) : (trestF s st).1.2.2.1 < 1000 ∧ (trestF s st).1.2.2.2 < 1000 ∧ ((trestF s st).1.1 = false → (trestF s st).1.2.2.1 = 0 ∧ (trestF s st).1.2.2.2 = 0 ∧ (trestF s st).1.2.1 = -1) ∧ ((trestF s st).1.1 = true → 0 ≤ (trestF s st).1.2.1 ∧ (trestF s st).1.2.1 ≤ 9) := by
  by_cases hb : (nextF s 60 st).1 = true
  · simp only [trestF, if_pos hb]
    refine ⟨numF_val s 3 _, numF_val s 3 _, (fun h => absurd h (by decide)), fun _ => ⟨by omega, ?_⟩⟩
    have := oneF_val (s := s) (lo := 48) (hi := 57) (st := (nextF s 60 st).2)
    omega
  · simp only [trestF, if_neg hb]
    simp
theorem tintoF_ok (s : ByteArray) (st : St) : -1 ≤ (tintoF s st).1 ∧ (tintoF s st).1 ≤ 9 := by
  by_cases hb : (nextF s 62 st).1 = true
  · simp only [tintoF, if_pos hb]
    have := oneF_val (s := s) (lo := 48) (hi := 57) (st := (nextF s 62 st).2)
    omega
  · simp only [tintoF, if_neg hb]
    omega
theorem tstepF_ok (s : ByteArray) (st : St) : TOk (tstepF s st).1 := by
  have a1 := oneF_val (s := s) (lo := 97) (hi := 100) (st := takeF s 59 st)
  have a2 := oneF_val (s := s) (lo := 48) (hi := 57) (st := (oneF s 97 100 (takeF s 59 st)).2)
  refine ⟨?_, ?_, numF_val s 3 _, numF_val s 3 _, (trestF_ok s _).1, (trestF_ok s _).2.1, numF_val s 5 _, (trestF_ok s _).2.2.1, (trestF_ok s _).2.2.2, (tintoF_ok s _).1, (tintoF_ok s _).2⟩
  · show (oneF s 97 100 (takeF s 59 st)).1 < 4; omega
  · show (oneF s 48 57 (oneF s 97 100 (takeF s 59 st)).2).1 < 10; omega
theorem tablesF_ok (s : ByteArray) (st : St) (acc : List TStp) (h : ∀ y ∈ acc, TOk y) : ∀ y ∈ (tablesF s st acc).2, TOk y := by
  induction st, acc using tablesF.induct (s := s) with
  | case1 st acc hc ih =>
    rw [tablesF, dif_pos hc]
    refine ih ?_
    intro y hy
    rcases List.mem_append.1 hy with hy | hy
    · exact h y hy
    · rw [List.mem_singleton.1 hy]; exact tstepF_ok s st
  | case2 st acc hc =>
    rw [tablesF, dif_neg hc]
    exact h
theorem tableF_ok (s : ByteArray) : ∀ y ∈ (tableF s).2, TOk y := tablesF_ok s _ [] (fun _ h => by cases h)

/-- How many steps of each of four plates are done, and where each stays. -/
def doneL (l : List TStp) : List Int := (List.range 4).map fun p => ((holdF l p).2 : Int)
def staysL (l : List TStp) : List Int := (List.range 4).map fun p => (holdF l p).1
theorem doneL_len (l : List TStp) : (doneL l).length = 4 := by simp [doneL]
theorem staysL_len (l : List TStp) : (staysL l).length = 4 := by simp [staysL]
theorem doneL_nil : doneL [] = [0, 0, 0, 0] := by decide
theorem staysL_nil : staysL [] = [-1, -1, -1, -1] := by decide
theorem doneL_get (l : List TStp) {p : Nat} (h : p < 4) : (doneL l)[p]? = some ((holdF l p).2 : Int) := by simp [doneL, h]
theorem staysL_get (l : List TStp) {p : Nat} (h : p < 4) : (staysL l)[p]? = some (holdF l p).1 := by simp [staysL, h]
theorem doneL_snoc (l : List TStp) (y : TStp) : doneL (l ++ [y]) = (doneL l).set y.pl ((holdF l y.pl).2 + 1 : Int) := by
  apply List.ext_getElem?
  intro i
  rw [List.getElem?_set]
  by_cases hi : i < 4
  · rw [doneL_get _ hi, holdF_snoc]
    by_cases e : y.pl = i
    · subst e; rw [if_pos rfl, if_pos rfl, doneL_len, if_pos hi]; simp
    · rw [if_neg e, if_neg e, doneL_get _ hi]
  · have h1 : (doneL (l ++ [y]))[i]? = none := List.getElem?_eq_none (by rw [doneL_len]; omega)
    have h2 : (doneL l)[i]? = none := List.getElem?_eq_none (by rw [doneL_len]; omega)
    rw [h1, h2]
    split
    · rw [doneL_len, if_neg (by omega)]
    · rfl
theorem staysL_snoc (l : List TStp) (y : TStp) : staysL (l ++ [y]) = (staysL l).set y.pl y.inn := by
  apply List.ext_getElem?
  intro i
  rw [List.getElem?_set]
  by_cases hi : i < 4
  · rw [staysL_get _ hi, holdF_snoc]
    by_cases e : y.pl = i
    · subst e; rw [if_pos rfl, if_pos rfl, staysL_len, if_pos hi]
    · rw [if_neg e, if_neg e, staysL_get _ hi]
  · have h1 : (staysL (l ++ [y]))[i]? = none := List.getElem?_eq_none (by rw [staysL_len]; omega)
    have h2 : (staysL l)[i]? = none := List.getElem?_eq_none (by rw [staysL_len]; omega)
    rw [h1, h2]
    split
    · rw [staysL_len, if_neg (by omega)]
    · rfl

/-- Does a step fit to where the plates stay? -/
def clashL (zs : List Int) (y : TStp) (a : Nat) : Bool := !(a == y.pl) && (decide (0 ≤ y.inn) && zs.getD a 0 == y.inn)
def tfitF (zs : List Int) (y : TStp) : Bool := y.out == zs.getD y.pl 0 && (List.range zs.length).all fun a => !clashL zs y a

theorem wrongB_ok {y : TStp} (h : TOk y) : wrongB 10 ⟨y.lo, y.hi, y.rest, y.mn, y.mx⟩ = (y.lo == 0 || decide (y.hi < y.lo) || decide (y.mx < y.mn)) := by
  cases hr : y.rest
  · obtain ⟨a, b, _⟩ := h.norest hr
    simp [wrongB, a, b]
  · simp [wrongB]
theorem staysL_getD (l : List TStp) {p : Nat} (h : p < 4) : (staysL l).getD p 0 = (holdF l p).1 := by
  rw [List.getD_eq_getElem?_getD, staysL_get l h]; rfl

/-- The program's test of a step is the document's. -/
theorem right_is {l : List TStp} {i : Nat} {y : TStp} (hy : l[i]? = some y) (h : TOk y) :
    rightF l i = (((y.no : Int) == ((holdF (l.take i) y.pl).2 : Int)) && !wrongB 10 ⟨y.lo, y.hi, y.rest, y.mn, y.mx⟩ && tfitF (staysL (l.take i)) y) := by
  have e1 : rightF l i = (ownRight l i y && (List.range 4).all fun a => !clash l i y a) := by simp only [rightF, hy]
  have e2 : ((List.range 4).all fun a => !clash l i y a) = ((List.range 4).all fun a => !clashL (staysL (l.take i)) y a) := by
    have : ∀ a ∈ List.range 4, (!clash l i y a) = (!clashL (staysL (l.take i)) y a) := by
      intro a ha
      have ha := List.mem_range.1 ha
      simp only [clash, clashL, staysL_getD _ ha]
    rw [Bool.eq_iff_iff, List.all_eq_true, List.all_eq_true]
    exact ⟨fun g a ha => by rw [← this a ha]; exact g a ha, fun g a ha => by rw [this a ha]; exact g a ha⟩
  have e3 : ((y.no : Int) == ((holdF (l.take i) y.pl).2 : Int)) = (y.no == (holdF (l.take i) y.pl).2) := by
    rw [Bool.eq_iff_iff, beq_iff_eq, beq_iff_eq]; omega
  rw [e1, e2, e3, wrongB_ok h, tfitF, staysL_len, staysL_getD _ h.pl, ownRight]
  cases (y.no == (holdF (l.take i) y.pl).2) <;> cases (y.lo == 0) <;> cases (decide (y.hi < y.lo)) <;> cases (decide (y.mx < y.mn)) <;> simp

theorem wrongF_step {l : List TStp} {k : Nat} (h : k < l.length) : wrongF l k = if rightF l k then wrongF l (k + 1) else (9, (k : Int)) := by
  rw [wrongF, if_pos h]
theorem wrongF_end {l : List TStp} {k : Nat} (h : ¬ k < l.length) : wrongF l k = (0, 0) := by
  rw [wrongF, if_neg h]
end Hx
end Go.Proofs.YtppcnlkhdgmaiaaDoor
namespace Go.Proofs.YtppcnlkhdgmaiaaDoor
open Go.RowKit

/-- A step of a table, cell by cell. -/
abbrev ptAgg (y : Hx.TStp) : Value := .agg #[.int .i64 (y.lo : Int), .int .i64 (y.hi : Int), .bool y.rest, .int .i64 (y.mn : Int), .int .i64 (y.mx : Int), .int .i64 (y.pl : Int), .int .i64 (y.no : Int), .bool (decide (0 ≤ y.inn)), .int .i64 (y.t : Int), .int .i64 y.out, .int .i64 y.inn]
theorem placed_at (s : ByteArray) (b : Nat) (st st2 : Hx.St) (y : Hx.TStp) (w : World) (h : Hx.ptF s st = (y, st2)) (hs : s.size ≤ 1000) (hp : st.pos ≤ s.size) (hb : 1 < b) (ht : Tab w) (hr : Rd 147 s b st w) :
    Calls Tryd.prog 78 #[.pointer (some ⟨b, 0, none⟩)] w fun e w' => e = .returned (ptAgg y) ∧ Rd 147 s b st2 w' ∧ w.grownBy w' (some b) := by
  refine (placed_any s b st w hs hp hb ht hr).mono ?_
  rintro e w' ⟨rfl, h1, h2⟩
  rw [h] at h1 ⊢
  exact ⟨rfl, h1, h2⟩

/-- The steps of a table, as they lie. -/
def ptsCells (l : List Hx.TStp) : List Value := l.flatMap ptCells
theorem ptsCells_snoc (l : List Hx.TStp) (y : Hx.TStp) : ptsCells (l ++ [y]) = ptsCells l ++ ptCells y := by simp [ptsCells]
theorem ptCells_one (y : Hx.TStp) : ∀ u ∈ ptCells y, u.oneCell' = true := by
  intro u hu
  simp only [ptCells, List.mem_cons, List.not_mem_nil, or_false] at hu
  rcases hu with rfl | rfl | rfl | rfl | rfl | rfl | rfl | rfl | rfl | rfl | rfl <;> rfl
theorem ptsCells_len (l : List Hx.TStp) : (ptsCells l).length = l.length * 11 := by
  induction l with
  | nil => rfl
  | cons y r ih =>
    show (ptCells y ++ ptsCells r).length = _
    rw [List.length_append, ih, List.length_cons]
    show 11 + _ = _
    omega
theorem ptsCells_at (l : List Hx.TStp) (j : Nat) (x : Hx.TStp) (h : l[j]? = some x) (t : Nat) (ht : t < 11) : (ptsCells l)[j * 11 + t]? = (ptCells x)[t]? := by
  induction l generalizing j with
  | nil => simp at h
  | cons y r ih =>
    have e : ptsCells (y :: r) = ptCells y ++ ptsCells r := rfl
    rw [e]
    have hl : (ptCells y).length = 11 := rfl
    cases j with
    | zero =>
      simp at h
      subst h
      rw [Nat.zero_mul, Nat.zero_add, List.getElem?_append_left (by omega)]
    | succ j =>
      rw [List.getElem?_append_right (by omega), hl, show (j + 1) * 11 + t - 11 = j * 11 + t by omega]
      exact ih j (by simpa using h)

/-- What lies in memory while a table is read: the answer's cells, the reader, the table so far. -/
structure Ht (s : ByteArray) (w w' : World) (st : Hx.St) (a : Array Value) : Prop where
  rd : Rd 147 s (w.heap.size + 1) st w'
  lo : w'.heap[w.heap.size + 1 + 1]? = some (.cells a 103 (0, 0))
  re : w'.heap[w.heap.size]? = some (.cells #[.int .i64 0, .slice none 0 0] 103 (0, 0))
  be : Below w.heap.size w w'

theorem Ht.tab {s w w' st a} (h : Ht s w w' st a) (ht : Tab w) : Tab w' := fun i hi => by
  have h1 := ht i hi
  have := World.block_lt_of_cell? w ⟨1, i, none⟩ h1
  rw [h.be.cell this]; exact h1
theorem Ht.call {s w w' w'' st st' a} (h : Ht s w w' st a) (hr : Rd 147 s (w.heap.size + 1) st' w'') (hg : w'.grownBy w'' (some (w.heap.size + 1))) : Ht s w w'' st' a :=
  ⟨hr, blk_kept h.lo hg (by simp), blk_kept h.re hg (by simp), h.be.grown hg h.be.size (by simp)⟩
theorem Ht.own {s w w' w'' st a} {row : Option Nat} (h : Ht s w w' st a) (hg : w'.grownBy w'' row) (hrow : ∀ k, row = some k → w.heap.size + 3 ≤ k) : Ht s w w'' st a :=
  ⟨h.rd.kept hg (fun e => by have := hrow _ e.symm; omega), blk_kept h.lo hg (fun e => by have := hrow _ e.symm; omega), blk_kept h.re hg (fun e => by have := hrow _ e.symm; omega), h.be.grown hg h.be.size (fun k e => by have := hrow k e; omega)⟩
theorem Ht.store {s w w' st a} (h : Ht s w w' st a) (o : Nat) (v : Value) : Ht s w (w'.setCell ⟨w.heap.size + 1 + 1, o, none⟩ v) st (a.setIfInBounds o v) :=
  ⟨h.rd.set_other (by omega) _ _, blk_set h.lo _ _, blk_set_other h.re (by omega) _ _, h.be.setCell (by show _ ≤ w.heap.size + 1 + 1; omega) _⟩
theorem Ht.init (s : ByteArray) (w : World) : Ht s w (((w.alloc (.cells #[.int .i64 0, .slice none 0 0] 103)).alloc (.cells #[.string s, .int .i64 0, .bool false] 147)).alloc (.cells #[.int .i64 0, .slice none 0 0] 103)) ⟨0, false⟩ #[.int .i64 0, .slice none 0 0] := by
  have g1 := (Below.refl w.heap.size w).alloc (Nat.le_refl _) (.cells #[.int .i64 0, .slice none 0 0] 103)
  have b1 := blk_new w #[.int .i64 0, .slice none 0 0] 103
  have s1 := size_alloc_ w (.cells #[.int .i64 0, .slice none 0 0] 103)
  generalize w.alloc (.cells #[.int .i64 0, .slice none 0 0] 103) = w1 at *
  have g2 := g1.alloc (by omega) (.cells #[.string s, .int .i64 0, .bool false] 147)
  have b2 := blk_new w1 #[.string s, .int .i64 0, .bool false] 147
  have s2 := size_alloc_ w1 (.cells #[.string s, .int .i64 0, .bool false] 147)
  have b12 := blk_kept b1 (grown_alloc w1 (.cells #[.string s, .int .i64 0, .bool false] 147) none) (by simp)
  generalize w1.alloc (.cells #[.string s, .int .i64 0, .bool false] 147) = w2 at *
  have g3 := g2.alloc (by omega) (.cells #[.int .i64 0, .slice none 0 0] 103)
  have b3 := blk_new w2 #[.int .i64 0, .slice none 0 0] 103
  have b23 := blk_kept b2 (grown_alloc w2 (.cells #[.int .i64 0, .slice none 0 0] 103) none) (by simp)
  have b13 := blk_kept b12 (grown_alloc w2 (.cells #[.int .i64 0, .slice none 0 0] 103) none) (by simp)
  rw [s2, s1] at b3
  rw [s1] at b23
  exact ⟨b23, b3, b13, g3⟩

theorem Tryd.infoPT : (Tryd.prog.info? 153).map (fun i => (i.zero, i.size, i.bytes)) = some (some (.agg #[.int .i64 0, .int .i64 0, .bool false, .int .i64 0, .int .i64 0, .int .i64 0, .int .i64 0, .bool false, .int .i64 0, .int .i64 0, .int .i64 0]), 11, 88) := by kernel_rfl

/-- How far reading a table has come. -/
def RtOn (s : ByteArray) (st : Hx.St) (acc : List Hx.TStp) : Prop := (st.bad = false ∧ Hx.tablesF s st acc = Hx.tableF s) ∨ (st.bad = true ∧ (Hx.tableF s).1 = st)
theorem RtOn.start (s : ByteArray) : RtOn s (Hx.theadF s).2 [] := by
  cases h : (Hx.theadF s).2.bad
  · exact Or.inl ⟨h, rfl⟩
  · refine Or.inr ⟨h, ?_⟩
    rw [Hx.tableF, Hx.tablesF_end (by simp [h])]
theorem RtOn.next {s : ByteArray} {st : Hx.St} {acc : List Hx.TStp} (h : RtOn s st acc) (hb : st.bad = false) (hl : st.pos < s.size) : RtOn s (Hx.ptF s st).2 (acc ++ [(Hx.ptF s st).1]) := by
  rcases h with ⟨_, h⟩ | ⟨h, _⟩
  · rw [Hx.tablesF_more hb hl] at h
    cases h2 : (Hx.ptF s st).2.bad
    · left
      have h3 : (Hx.tstepF s st).2.bad = false := by rw [← Hx.ptF_st]; exact h2
      rw [Hx.ptF_val s st h3] at h2 ⊢
      exact ⟨h2, h⟩
    · right
      refine ⟨h2, ?_⟩
      rw [Hx.ptF_st] at h2 ⊢
      rw [← h, Hx.tablesF_end (by simp [h2])]
  · rw [hb] at h; cases h
theorem RtOn.ends {s : ByteArray} {st : Hx.St} {acc : List Hx.TStp} (h : RtOn s st acc) (hb : st.bad = false) (hl : s.size ≤ st.pos) : Hx.tableF s = (st, acc) := by
  rcases h with ⟨_, h⟩ | ⟨h, _⟩
  · rw [← h, Hx.tablesF_end (by omega)]
  · rw [hb] at h; cases h
theorem RtOn.fails {s : ByteArray} {st : Hx.St} {acc : List Hx.TStp} (h : RtOn s st acc) (hb : st.bad = true) : (Hx.tableF s).1 = st := by
  rcases h with ⟨h, _⟩ | ⟨_, h⟩
  · rw [hb] at h; cases h
  · exact h
theorem theadF_le (s : ByteArray) : (Hx.theadF s).2.pos ≤ s.size := Hx.numF_le (Hx.takeF_le (by omega) (Nat.zero_le _))
theorem ptF_gt {s : ByteArray} {st : Hx.St} (hl : st.pos < s.size) (hb : st.bad = false) : (if (Hx.ptF s st).2.bad = false ∧ (Hx.ptF s st).2.pos < s.size then s.size - (Hx.ptF s st).2.pos else 0) < s.size - st.pos := by
  have := Hx.mT_lt hb hl
  rw [Hx.ptF_st]
  have e : Hx.mT s st = s.size - st.pos := by simp [Hx.mT, hb, hl]
  rw [e] at this
  exact this
theorem ptF_len {s : ByteArray} {st : Hx.St} (hb : (Hx.ptF s st).2.bad = false) : st.pos < (Hx.ptF s st).2.pos := by
  rw [Hx.ptF_st] at hb ⊢
  exact Hx.tstepF_gt hb

set_option maxRecDepth 100000 in
set_option maxHeartbeats 4000000 in
theorem readtable_any (s : ByteArray) (w : World) (hs : s.size ≤ 400) (ht : Tab w) :
    Calls Tryd.prog 58 #[.string s] w fun e w' => Below w.heap.size w w' ∧
      (((Hx.tableF s).1.bad = true ∧ e = .returned (.tuple #[.agg #[.int .i64 0, .slice none 0 0], .int .i64 ((Hx.tableF s).1.pos : Int), .bool false])) ∨
       ((Hx.tableF s).1.bad = false ∧ ∃ v, e = .returned (.tuple #[.agg #[.int .i64 ((Hx.theadF s).1 : Int), v], .int .i64 0, .bool true]) ∧ w'.ownsRow w.heap.size 153 11 v (Hx.tableF s).2.length (ptsCells (Hx.tableF s).2) ∧ (Hx.tableF s).2.length ≤ 401)) := by
  have HT : Hid (Tab w) := ht
  have hN : 1 < w.heap.size := ht.pos
  have hs1 : s.size ≤ 1000 := by omega
  clear ht
  obtain ⟨i0, hi, hz0, hz1, hz2⟩ := info_parts Tryd.infoPT
  have HI := hide hi
  have HZ0 := hide hz0
  have HZ1 := hide hz1
  have HZ2 := hide hz2
  clear hi hz0 hz1 hz2
  go_enter Tryd.func58, Tryd.ntmps58
  go_wp2_with fail
  have h0 := Ht.init s w
  have HH := hide h0
  refine (take_any s _ ⟨0, false⟩ _ 106 _ hs1 (Nat.zero_le _) rfl (by omega) h0.rd).mono ?_
  clear h0
  rintro e w1 ⟨rfl, hr1, hg1⟩
  have H1 := hide ((unhide HH).call hr1 hg1)
  clear hr1 hg1 HH
  go_wp2_with fail
  refine (number_any s _ _ _ 1 _ hs1 (Hx.takeF_le (by omega) (Nat.zero_le _)) (by omega) rfl (by omega) ((unhide H1).tab HT.out) (unhide H1).rd).mono ?_
  rintro e w2 ⟨rfl, hr2, hg2⟩
  have H2 : Hid (Ht s w w2 (Hx.theadF s).2 _) := ((unhide H1).call hr2 hg2)
  clear hr2 hg2 H1
  have P2 : Hid ((Hx.theadF s).2.pos ≤ s.size) := theadF_le s
  have c0 : w2.cell? ⟨w.heap.size + 1 + 1, 0, none⟩ = some (.int .i64 0) := blk_cell (unhide H2).lo 0
  have f0 := blk_free (unhide H2).lo 0
  go_wp2_with fail
  have H3 : Hid (Ht s w _ _ #[.int .i64 ((Hx.theadF s).1 : Int), .slice none 0 0]) := ((unhide H2).store 0 (.int .i64 ((Hx.theadF s).1 : Int)))
  clear H2 c0 f0
  go_loopg [] (Hx.mT s (Hx.theadF s).2) (fun gk wr => ∃ (st' : Hx.St) (acc : List Hx.TStp) (v : Value), st'.pos ≤ s.size ∧ gk = Hx.mT s st' ∧ (st'.bad = false → acc.length ≤ st'.pos) ∧ Ht s w wr st' #[.int .i64 ((Hx.theadF s).1 : Int), v] ∧ wr.ownsRow (w.heap.size + 3) 153 11 v acc.length (ptsCells acc) ∧ RtOn s st' acc)
  case atStart => exact ⟨_, [], _, P2.out, rfl, fun _ => Nat.zero_le _, unhide H3, World.ownsRow_nil _ _ _ _, RtOn.start s⟩
  case round =>
    clear H3 P2
    obtain ⟨st', acc, v, hpos, rfl, hlen, hhd, hvs, hon⟩ := hrel
    obtain ⟨ao, cap, rfl⟩ := own_form hvs
    have hbig : w.heap.size + 3 ≤ wr.heap.size := lt_of_block hhd.lo
    have HHD := hide hhd
    have HVS := hide hvs
    have HON := hide hon
    have cL : wr.cell? ⟨w.heap.size + 1 + 1, 1, none⟩ = some (.slice ao acc.length cap) := blk_cell hhd.lo 1
    have fL := blk_free hhd.lo 1
    have d2 := hhd.rd.c2
    have d1 := hhd.rd.c1
    have e0 : wr.cell? ⟨w.heap.size, 0, none⟩ = some (.int .i64 0) := blk_cell hhd.re 0
    have e1 : wr.cell? ⟨w.heap.size, 1, none⟩ = some (.slice none 0 0) := blk_cell hhd.re 1
    have ef := blk_free hhd.re
    clear hhd hvs hon
    cases hbad : st'.bad
    · rw [hbad] at d2
      have HBAD := hide hbad
      have hal := hlen hbad
      clear hbad hlen
      by_cases hend : s.size ≤ st'.pos
      · have HPR := hide ((unhide HON).ends (unhide HBAD) hend)
        have g0 : wr.cell? ⟨w.heap.size + 1 + 1, 0, none⟩ = some (.int .i64 ((Hx.theadF s).1 : Int)) := blk_cell (unhide HHD).lo 0
        have HE := hide hend
        clear hend
        go_wp2_with fail
        refine (ended_yes s _ st' _ hs1 hpos HE.out (unhide HHD).rd).mono ?_
        rintro e w7 ⟨rfl, n7, rfl⟩
        go_wp2_with fail
        refine bodyPost_ret (v := .tuple #[.agg #[.int .i64 ((Hx.theadF s).1 : Int), .slice ao acc.length cap], .int .i64 0, .bool true]) (by simp [results, Tryd.results58, go_sem, e0, e1, Hx.theadF]) rfl ?_
        have hle := Nat.le_refl w.heap.size
        have hlt3 : w.heap.size < w.heap.size + 3 := by omega
        refine ⟨((below_drewN (unhide HHD).be n7).setCell hle _).setCell hle _, Or.inr ⟨by rw [unhide HPR]; exact unhide HBAD, _, rfl, ?_, ?_⟩⟩
        · rw [unhide HPR]
          exact own_mono ((((unhide HVS).kept (grown_drewN _ n7 (some 0)) (own_ne (unhide HVS) (by omega))).kept (grown_set _ _ _ _) (own_ne (unhide HVS) hlt3)).kept (grown_set _ _ _ _) (own_ne (unhide HVS) hlt3)) (by omega)
        · rw [unhide HPR]; show acc.length ≤ 401; omega
      · have HE : Hid (st'.pos < s.size) := show _ < _ by omega
        have HNX := hide ((unhide HON).next (unhide HBAD) HE.out)
        have HMT := hide (Hx.mT_lt (unhide HBAD) HE.out)
        rw [← Hx.ptF_st] at HMT
        have hple := Hx.ptF_le (s := s) (st := st') hpos
        have HLN := hide (ptF_len (s := s) (st := st'))
        obtain ⟨⟨y, st2⟩, hy⟩ : ∃ r, Hx.ptF s st' = r := ⟨_, rfl⟩
        rw [hy] at HNX HMT hple HLN
        have HY := hide hy
        clear hend hy
        go_wp2_with fail
        refine (ended_no s _ st' _ hs1 hpos HE.out (unhide HHD).rd).mono ?_
        rintro e w7 ⟨rfl, n7, rfl⟩
        have HHD7 : Hid (Ht s w (wr.drewN n7) st' _) := ⟨(unhide HHD).rd, (unhide HHD).lo, (unhide HHD).re, below_drewN (unhide HHD).be _⟩
        have HVS7 := hide ((unhide HVS).kept (grown_drewN wr n7 (some 0)) (own_ne (unhide HVS) (by omega)))
        have hbig7 : w.heap.size + 3 ≤ (wr.drewN n7).heap.size := lt_of_block (unhide HHD7).lo
        go_upto_region 6 with fail
        clear cL fL d1 d2 e0 e1 ef HHD HVS hbig
        generalize wr.drewN n7 = w8 at *
        have cL : w8.cell? ⟨w.heap.size + 1 + 1, 1, none⟩ = some (.slice ao acc.length cap) := blk_cell (unhide HHD7).lo 1
        have fL := blk_free (unhide HHD7).lo 1
        go_region_law (first
            | (refine step_append_own rfl (.tmp 26) (.tmp 29) 101 rfl (w.heap.size + 3) 153 i0 (.agg #[.int .i64 0, .int .i64 0, .bool false, .int .i64 0, .int .i64 0, .int .i64 0, .int .i64 0, .bool false, .int .i64 0, .int .i64 0, .int .i64 0]) 11 88 Tryd.underlying101 (unhide HI) (unhide HZ0) (unhide HZ1) (unhide HZ2) rfl (by decide) (.slice ao acc.length cap) acc.length (ptsCells acc) (by simp [Act.eval]) ((unhide V1).alloc _) ⟨w1.heap.size, 0, none⟩ 1 1 (ptCells y) (by simp [Act.eval]) rfl (news_new w1 (ptCells y) 153) (ptCells_one y) (by unfold maxLen; omega) (by omega) (by simp; omega) ?_; intro v' w3 hown' hgrow'; obtain ⟨ao3, cap3, rfl⟩ := own_form hown'; have H3 := hide (((unhide H1).own (grown_alloc w1 _ none) (by simp)).own hgrow' (fun k e => ((unhide V1).lt k e).1)); have cL3 : w3.cell? ⟨w.heap.size + 1 + 1, 1, none⟩ = some (.slice ao acc.length cap) := blk_cell (unhide H3).lo 1; have fL3 := blk_free (unhide H3).lo 1; have O3 := hide hown'; clear hown' hgrow')
            | (go_simp; go_wp2_with (go_at_call 78; refine (placed_at s (w.heap.size + 1) st' st2 y _ (unhide HY) hs1 hpos (by omega) (by exact (unhide HHD7).tab HT.out) (by exact (unhide HHD7).rd)).mono ?_; rintro e w1 ⟨rfl, hr1, hg1⟩; have hg1' := grown_of_drew hg1; have H1 := hide ((unhide HHD7).call hr1 hg1'); have V1 := hide ((unhide HVS7).kept hg1' (own_ne (unhide HVS7) (by omega))); have hb1 : w.heap.size + 3 ≤ w1.heap.size := lt_of_block (unhide H1).lo; have cL1 : w1.cell? ⟨w.heap.size + 1 + 1, 1, none⟩ = some (.slice ao acc.length cap) := blk_cell (unhide H1).lo 1; have fL1 := blk_free (unhide H1).lo 1; have cL1a : (w1.alloc (.cells (ptCells y).toArray 153)).cell? ⟨w.heap.size + 1 + 1, 1, none⟩ = some (.slice ao acc.length cap) := (grown_alloc w1 _ none).cell cL1 (by simp); simp only [ptCells] at cL1a; clear hr1 hg1 hg1')))
        all_goals
          go_wp2_with fail
          go_roundg (Hx.mT s st2)
          case measure => exact unhide HMT
          case rel =>
            refine ⟨st2, acc ++ [y], _, hple, rfl, fun e => by have := unhide HLN e; simp at this ⊢; omega, (unhide H3).store 1 _, ?_, unhide HNX⟩
            rw [ptsCells_snoc, List.length_append]
            exact (unhide O3).kept (grown_set _ _ _ _) (own_ne (unhide O3) (by omega))
    · have HPR := hide ((unhide HON).fails hbad)
      have HBAD := hide hbad
      rw [hbad] at d2
      clear hbad hlen HVS HON
      go_wp2_with fail
      go_region
      all_goals
        go_wp2_with fail
        refine bodyPost_ret (v := .tuple #[.agg #[.int .i64 0, .slice none 0 0], .int .i64 (st'.pos : Int), .bool false]) (by simp [results, Tryd.results58, go_sem, e0, e1]) rfl ?_
        have hle := Nat.le_refl w.heap.size
        refine ⟨?_, Or.inl ⟨by rw [unhide HPR]; exact unhide HBAD, by rw [unhide HPR]⟩⟩
        first
          | exact (((unhide HHD).be.setCell hle _).setCell hle _).drew
          | exact ((unhide HHD).be.drew.setCell hle _).setCell hle _

end Go.Proofs.YtppcnlkhdgmaiaaDoor
