/- The plain mathematics of a timetable's text: it is read as what it was written of. A table of numbers in memory: a slice of slices of numbers, its rows apart from one another. Small parts of the document's side: End, first, joined. What the document's Look answers. How the document reads a list of numbers: numbers. How the document reads a script: numbers, Script. How the document reads a script: Script. What the document's looks does: the times at which the machine looks at its clock. What the document's Run needs: names and numbers as they are written; where a look is. -/
import Derived.Test.YtppcnlkhdgmaiaaDoorCPlC
import Derived.Test.YtppcnlkhdgmaiaaDoorCPs
import Derived.Test.YtppcnlkhdgmaiaaDoorCPz
import Derived.Test.YtppcnlkhdgmaiaaDoorCPlB
import Derived.Test.YtppcnlkhdgmaiaaDoorCPlA
import Derived.Test.YtppcnlkhdgmaiaaDoorCPf
import Derived.BigQuiet
import Derived.Test.YtppcnlkhdgmaiaaDoorCRtC
import Derived.Deep.Onto
import Derived.Test.YtppcnlkhdgmaiaaDoorCRmA
import Derived.Deep.RegionLaw
import Derived.Lib.Strings
namespace Go.Proofs.YtppcnlkhdgmaiaaDoor
namespace Hx

/-- What a timetable is, as a table. -/
def tStp (t : Trn) (T : Int) (st : List Int) : TStp :=
  ⟨t.pl, t.no, t.x.lo, t.x.hi, t.x.rest, if t.x.rest then t.x.mn else 0, if t.x.rest then t.x.mx else 0, T.toNat, if t.x.rest then st.getD t.pl 0 else -1, if t.beg then (lowF (sOut t st) : Int) else -1⟩
def tabOf : List (Trn × Int) → List Int → List TStp
  | [], _ => []
  | (t, T) :: l, st => tStp t T st :: tabOf l (sIn t (sOut t st))
/-- A step that can be written and read. -/
structure WOk (t : Trn) (T : Int) (st : List Int) : Prop where
  pl : t.pl < 4
  no : t.no < 10
  lo : t.x.lo < 1000
  hi : t.x.hi < 1000
  mn : t.x.mn < 1000
  mx : t.x.mx < 1000
  t0 : 0 ≤ T
  t1 : T < 100000
  out : t.x.rest = true → 0 ≤ st.getD t.pl 0 ∧ st.getD t.pl 0 ≤ 9
  low : lowF (sOut t st) ≤ 9
theorem Tl.digit {s : ByteArray} {p n : Nat} {r : List UInt8} (h : Tl s p (Lib.itoa (n : Int) ++ r)) (hn : n ≤ 9) : oneF s 48 57 ⟨p, false⟩ = (n, ⟨p + 1, false⟩) ∧ Tl s (p + 1) r := by
  rw [itoa_nat, Lib.decDigits_one (by omega)] at h
  have hb := ofNat_toNat (n := 48 + n) (by omega)
  obtain ⟨e, t⟩ := Tl.one (lo := 48) (hi := 57) h (by omega) (by omega)
  refine ⟨?_, t⟩
  rw [e, hb]
  simp
theorem Tl.nextYes {s : ByteArray} {p c : Nat} {b : UInt8} {r : List UInt8} (h : Tl s p (b :: r)) (hc : b.toNat = c) : nextF s c ⟨p, false⟩ = (true, ⟨p + 1, false⟩) ∧ Tl s (p + 1) r :=
  ⟨nextF_yes (by rw [h.byte, hc]), h.next⟩
/-- What follows does not begin with this sign. -/
def noSign (c : Nat) (r : List UInt8) : Prop := ∀ b, r[0]? = some b → b.toNat ≠ c
theorem Tl.nextNo {s : ByteArray} {p c : Nat} {r : List UInt8} (h : Tl s p r) (hc : noSign c r) (h256 : c ≠ 256) : nextF s c ⟨p, false⟩ = (false, ⟨p, false⟩) := by
  refine nextF_no ?_
  rintro ⟨_, hb⟩
  have hb : byteAt s p = c := hb
  cases r with
  | nil => rw [h.none] at hb; exact h256 hb.symm
  | cons b r => rw [h.byte] at hb; exact hc b rfl hb
theorem ends_no {r : List UInt8} (h : ends r) {c : Nat} (hc : c ≠ 59) : noSign c r := fun b hb e => by
  rw [h b hb] at e
  exact hc e.symm
theorem into_read {s : ByteArray} {p : Nat} {t : Trn} {st : List Int} {r : List UInt8} (hr : ends r) (hl : lowF st ≤ 9) (h : Tl s p (wIn t st ++ r)) :
    ∃ q, tintoF s ⟨p, false⟩ = ((if t.beg then (lowF st : Int) else -1), ⟨q, false⟩) ∧ Tl s q r := by
  unfold wIn at h
  cases hb : t.beg with
  | true =>
    rw [hb, if_pos rfl, List.append_assoc] at h
    obtain ⟨e1, t1⟩ := Tl.nextYes (b := 62) (c := 62) h (by rfl)
    obtain ⟨e2, t2⟩ := t1.digit hl
    refine ⟨_, ?_, t2⟩
    simp only [tintoF, e1, e2, if_true]
  | false =>
    rw [hb] at h
    have h' : Tl s p r := h
    have e1 := h'.nextNo (c := 62) (ends_no hr (by omega)) (by omega)
    refine ⟨p, ?_, h'⟩
    simp [tintoF, e1]
theorem wIn_dig {t : Trn} {st : List Int} {r : List UInt8} (hr : ends r) : noDig (wIn t st ++ r) := by
  unfold wIn
  split
  · exact noDig_cons (by decide)
  · exact ends_dig hr
theorem wIn_no {t : Trn} {st : List Int} {r : List UInt8} (hr : ends r) : noSign 60 (wIn t st ++ r) := by
  unfold wIn
  split
  · intro b hb
    simp at hb
    subst hb
    decide
  · exact ends_no hr (by omega)
theorem wOut_dig {t : Trn} {st : List Int} {r : List UInt8} (hr : noDig r) : noDig (wOut t st ++ r) := by
  unfold wOut
  split
  · exact noDig_cons (by decide)
  · exact hr
theorem out_read {s : ByteArray} {p : Nat} {t : Trn} {st : List Int} {r : List UInt8} (hd : noDig r) (hn : noSign 60 r) (h1 : t.x.mn < 1000) (h2 : t.x.mx < 1000) (ho : t.x.rest = true → 0 ≤ st.getD t.pl 0 ∧ st.getD t.pl 0 ≤ 9) (h : Tl s p (wOut t st ++ r)) :
    ∃ q, trestF s ⟨p, false⟩ = ((t.x.rest, (if t.x.rest then st.getD t.pl 0 else -1), (if t.x.rest then t.x.mn else 0), (if t.x.rest then t.x.mx else 0)), ⟨q, false⟩) ∧ Tl s q r := by
  unfold wOut at h
  cases hb : t.x.rest with
  | true =>
    obtain ⟨o1, o2⟩ := ho hb
    obtain ⟨z, hz⟩ : ∃ z : Nat, st.getD t.pl 0 = (z : Int) := ⟨(st.getD t.pl 0).toNat, by omega⟩
    rw [hz] at o2 ⊢
    have h' : Tl s p (60 :: (Lib.itoa (z : Int) ++ (58 :: (Lib.itoa (t.x.mn : Int) ++ (45 :: (Lib.itoa (t.x.mx : Int) ++ r)))))) := by
      rw [hb, if_pos rfl, hz] at h
      have e : [60] ++ Lib.itoa (z : Int) ++ [58] ++ bndB t.x.mn t.x.mx ++ r = 60 :: (Lib.itoa (z : Int) ++ (58 :: (Lib.itoa (t.x.mn : Int) ++ (45 :: (Lib.itoa (t.x.mx : Int) ++ r))))) := by simp [bndB]
      rw [← e]; exact h
    obtain ⟨e1, t1⟩ := h'.nextYes (c := 60) (by rfl)
    obtain ⟨e2, t2⟩ := t1.digit (by omega)
    obtain ⟨e3, t3⟩ := t2.take (c := 58) (by rfl)
    obtain ⟨e4, t4⟩ := t3.num (k := 2) (noDig_cons (by decide)) h1
    obtain ⟨e5, t5⟩ := t4.take (c := 45) (by rfl)
    obtain ⟨e6, t6⟩ := t5.num (k := 2) hd h2
    refine ⟨_, ?_, t6⟩
    simp only [trestF, e1, e2, if_true, e3, e4, e5, e6]
  | false =>
    rw [hb] at h
    have h' : Tl s p r := h
    have e1 := h'.nextNo hn (by omega)
    refine ⟨p, ?_, h'⟩
    simp [trestF, e1]
theorem step_read {s : ByteArray} {p : Nat} {t : Trn} {T : Int} {st : List Int} {r : List UInt8} (hr : ends r) (hw : WOk t T st) (h : Tl s p (wHead t T ++ wOut t st ++ wIn t (sOut t st) ++ r)) :
    ∃ q, tstepF s ⟨p, false⟩ = (tStp t T st, ⟨q, false⟩) ∧ Tl s q r := by
  obtain ⟨z, hz⟩ : ∃ z : Nat, T = (z : Int) := ⟨T.toNat, by have := hw.t0; omega⟩
  have hz5 : z < 100000 := by have := hw.t1; omega
  have h' : Tl s p (59 :: UInt8.ofNat (97 + t.pl) :: UInt8.ofNat (48 + t.no) :: 64 :: (Lib.itoa (z : Int) ++ (43 :: (Lib.itoa (t.x.lo : Int) ++ (45 :: (Lib.itoa (t.x.hi : Int) ++ (wOut t st ++ (wIn t (sOut t st) ++ r)))))))) := by
    have e : wHead t T ++ wOut t st ++ wIn t (sOut t st) ++ r = 59 :: UInt8.ofNat (97 + t.pl) :: UInt8.ofNat (48 + t.no) :: 64 :: (Lib.itoa (z : Int) ++ (43 :: (Lib.itoa (t.x.lo : Int) ++ (45 :: (Lib.itoa (t.x.hi : Int) ++ (wOut t st ++ (wIn t (sOut t st) ++ r))))))) := by
      rw [hz]
      simp [wHead, bndB, nameB]
    rw [← e]; exact h
  have p1 := hw.pl
  have p2 := hw.no
  have b1 := ofNat_toNat (n := 97 + t.pl) (by omega)
  have b2 := ofNat_toNat (n := 48 + t.no) (by omega)
  obtain ⟨e1, t1⟩ := h'.take (c := 59) (by rfl)
  obtain ⟨e2, t2⟩ := t1.one (lo := 97) (hi := 100) (by omega) (by omega)
  obtain ⟨e3, t3⟩ := t2.one (lo := 48) (hi := 57) (by omega) (by omega)
  obtain ⟨e4, t4⟩ := t3.take (c := 64) (by rfl)
  obtain ⟨e5, t5⟩ := t4.num (k := 4) (noDig_cons (by decide)) hz5
  obtain ⟨e6, t6⟩ := t5.take (c := 43) (by rfl)
  obtain ⟨e7, t7⟩ := t6.num (k := 2) (noDig_cons (by decide)) hw.lo
  obtain ⟨e8, t8⟩ := t7.take (c := 45) (by rfl)
  obtain ⟨e9, t9⟩ := t8.num (k := 2) (wOut_dig (wIn_dig hr)) hw.hi
  obtain ⟨q1, e10, t10⟩ := out_read (wIn_dig hr) (wIn_no hr) hw.mn hw.mx hw.out t9
  obtain ⟨q2, e11, t11⟩ := into_read hr hw.low t10
  refine ⟨q2, ?_, t11⟩
  unfold tstepF
  simp only [e1, e2, e3, e4, e5, e6, e7, e8, e9, e10, e11]
  unfold tStp
  rw [b1, b2, hz]
  simp
/-- All steps can be written and read. -/
def WAll : List (Trn × Int) → List Int → Prop
  | [], _ => True
  | (t, T) :: l, st => WOk t T st ∧ WAll l (sIn t (sOut t st))
theorem wAll_ends (l : List (Trn × Int)) (st : List Int) : ends (wAll l st) := by
  cases l with
  | nil => intro b hb; simp [wAll] at hb
  | cons a l =>
    obtain ⟨t, T⟩ := a
    intro b hb
    simp [wAll, wHead] at hb
    exact hb.symm
theorem all_read {s : ByteArray} : ∀ (l : List (Trn × Int)) (st : List Int) (acc : List TStp) (p : Nat), WAll l st → Tl s p (wAll l st) → ∃ q, tablesF s ⟨p, false⟩ acc = (⟨q, false⟩, acc ++ tabOf l st)
  | [], st, acc, p, _, h => by
    have h0 : Tl s p [] := h
    have := h0.ge
    exact ⟨p, by rw [tablesF_end (by simp only; omega)]; simp [tabOf]⟩
  | (t, T) :: l, st, acc, p, hw, h => by
    obtain ⟨h1, h2⟩ := hw
    obtain ⟨q, e1, t1⟩ := step_read (wAll_ends l _) h1 h
    have hlt : p < s.size := by
      refine Tl.lt (b := 59) (r := ((nameB t.pl t.no).data.toList ++ [64] ++ Lib.itoa T ++ [43] ++ bndB t.x.lo t.x.hi) ++ wOut t st ++ wIn t (sOut t st) ++ wAll l (sIn t (sOut t st))) ?_
      have e : wAll ((t, T) :: l) st = 59 :: (((nameB t.pl t.no).data.toList ++ [64] ++ Lib.itoa T ++ [43] ++ bndB t.x.lo t.x.hi) ++ wOut t st ++ wIn t (sOut t st) ++ wAll l (sIn t (sOut t st))) := by simp [wAll, wHead]
      rw [← e]; exact h
    obtain ⟨q2, e2⟩ := all_read l (sIn t (sOut t st)) (acc ++ [tStp t T st]) q h2 t1
    exact ⟨q2, by rw [tablesF_more rfl hlt, e1, e2]; simp [tabOf]⟩
/-- A timetable is read as what it was written of. -/
theorem write_read {J n : Nat} (hJ : J < 10) {l : List (Trn × Int)} (hw : WAll l (List.replicate n (-1))) {s : ByteArray} (hs : s = ⟨(writeF J n l).toArray⟩) :
    (theadF s).1 = J ∧ (tableF s).1.bad = false ∧ (tableF s).2 = tabOf l (List.replicate n (-1)) := by
  have h := Tl.start (writeF J n l)
  rw [← hs] at h
  have h' : Tl s 0 (106 :: (Lib.itoa (J : Int) ++ wAll l (List.replicate n (-1)))) := by
    have e : writeF J n l = 106 :: (Lib.itoa (J : Int) ++ wAll l (List.replicate n (-1))) := by simp [writeF]
    rw [← e]; exact h
  obtain ⟨e1, t1⟩ := h'.take (c := 106) (by rfl)
  obtain ⟨e2, t2⟩ := t1.num (k := 0) (ends_dig (wAll_ends _ _)) (by simpa using hJ)
  have j : theadF s = (J, ⟨0 + 1 + Lib.nDigits J, false⟩) := by unfold theadF; rw [e1, e2]
  obtain ⟨q, e3⟩ := all_read l _ [] _ hw t2
  refine ⟨by rw [j], ?_, ?_⟩
  · unfold tableF; rw [j]; dsimp only; rw [e3]
  · unfold tableF; rw [j]; dsimp only; rw [e3]; rfl
end Hx
end Go.Proofs.YtppcnlkhdgmaiaaDoor
namespace Go.Proofs.YtppcnlkhdgmaiaaDoor
open Go.RowKit

def Hx.updM (M : Nat → Nat → Int) (i j : Nat) (v : Int) : Nat → Nat → Int := fun a b => if a = i ∧ b = j then v else M a b

/-- The first m rows of a table of N columns. -/
structure Mtx (base N m : Nat) (fv : Value) (g : Nat → Nat) (M : Nat → Nat → Int) (w : World) : Prop where
  far : w.ownsRow base 49 1 fv m ((List.range m).map fun i => .slice (some ⟨g i, 0, none⟩) N N)
  row : ∀ i, i < m → w.ownsRow base 3 1 (.slice (some ⟨g i, 0, none⟩) N N) N (intCells N (M i))
  inj : ∀ i j, i < m → j < m → g i = g j → i = j

theorem Mtx.nil (base N : Nat) (M : Nat → Nat → Int) (w : World) : Mtx base N 0 (.slice none 0 0) (fun _ => 0) M w :=
  ⟨World.ownsRow_nil _ _ _ _, fun _ h => absurd h (Nat.not_lt_zero _), fun _ _ h => absurd h (Nat.not_lt_zero _)⟩
theorem Mtx.below {base N m fv g M w w'} (hb : Below w.heap.size w w') (h : Mtx base N m fv g M w) : Mtx base N m fv g M w' :=
  ⟨own_below h.far hb, fun i hi => own_below (h.row i hi) hb, h.inj⟩
theorem Mtx.drewN {base N m fv g M w} (n : Nat) (h : Mtx base N m fv g M w) : Mtx base N m fv g M (w.drewN n) := h.below (below_drewN (Below.refl _ _) n)
theorem Mtx.alloc {base N m fv g M w} (o : Obj) (h : Mtx base N m fv g M w) : Mtx base N m fv g M (w.alloc o) := h.below ((Below.refl _ _).alloc (Nat.le_refl _) o)
theorem Mtx.same {base N m fv g M M' w} (h : Mtx base N m fv g M w) (he : ∀ a b, a < m → b < N → M a b = M' a b) : Mtx base N m fv g M' w := by
  refine ⟨h.far, fun i hi => ?_, h.inj⟩
  have e : intCells N (M i) = intCells N (M' i) := by
    unfold intCells
    apply List.map_congr_left
    intro b hb
    rw [he i b hi (List.mem_range.1 hb)]
  rw [← e]
  exact h.row i hi
theorem Mtx.cell {base N m fv g M w} (h : Mtx base N m fv g M w) {i j : Nat} (hi : i < m) (hj : j < N) : w.cell? ⟨g i, j, none⟩ = some (.int .i64 (M i j)) := by
  rw [(h.row i hi).cellAt j (by omega)]
  exact intCells_at hj
theorem Mtx.fz {base N m fv g M w} (h : Mtx base N m fv g M w) {i : Nat} (hi : i < m) (j : Nat) : w.frozen? ⟨g i, j, none⟩ = false := (h.row i hi).frozenAt j
theorem Mtx.slot {base N m fb cap g M w} (h : Mtx base N m (.slice (some ⟨fb, 0, none⟩) m cap) g M w) {i : Nat} (hi : i < m) : w.cell? ⟨fb, i, none⟩ = some (.slice (some ⟨g i, 0, none⟩) N N) := by
  rw [h.far.cellAt i (by omega)]
  simp [hi]
theorem Mtx.ge {base N m fv g M w} (h : Mtx base N m fv g M w) {i : Nat} (hi : i < m) : base ≤ g i ∧ g i < w.heap.size := (h.row i hi).lt (g i) rfl
theorem Mtx.ne {base N m fb cap g M w} (h : Mtx base N m (.slice (some ⟨fb, 0, none⟩) m cap) g M w) {i : Nat} (hi : i < m) : fb ≠ g i := by
  have := own_apart h.far (h.row i hi) (by decide)
  intro e
  subst e
  rcases this with h | h
  · cases h
  · exact h rfl
/-- One number is stored. -/
theorem Mtx.put {base N m fv g M w} (h : Mtx base N m fv g M w) {i : Nat} (hi : i < m) (j : Nat) (v : Int) : Mtx base N m fv g (Hx.updM M i j v) (w.setCell ⟨g i, j, none⟩ (.int .i64 v)) := by
  have hg := grown_set w (g i) j (.int .i64 v)
  refine ⟨h.far.kept hg (own_apart h.far (h.row i hi) (by decide)), fun a ha => ?_, h.inj⟩
  by_cases e : a = i
  · subst e
    have h1 := ((h.row a ha).stored j (.int .i64 v)).1
    rw [intCells_set] at h1
    have e2 : Hx.updM M a j v a = Hx.updT (M a) j v := by
      funext b
      simp [Hx.updM, Hx.updT]
    rw [e2]
    exact h1
  · have e2 : Hx.updM M i j v a = M a := by
      funext b
      simp [Hx.updM, e]
    rw [e2]
    exact (h.row a ha).kept hg (Or.inr (fun e3 => e (h.inj a i ha hi (Option.some.inj e3))))
theorem Mtx.grown {base N m fv g M w w'} (hg : w.grownBy w' none) (h : Mtx base N m fv g M w) : Mtx base N m fv g M w' := by
  refine ⟨h.far.kept hg ?_, fun i hi => (h.row i hi).kept hg (Or.inr (by intro e; cases e)), h.inj⟩
  cases fv.ownBlock
  · exact Or.inl rfl
  · exact Or.inr (by intro e; cases e)
/-- A store into a row that is not of the table. -/
theorem Mtx.aside {base N m fv g M w r xs} (h : Mtx base N m fv g M w) (hr : w.ownsRow base 3 1 (.slice (some ⟨r, 0, none⟩) N N) N xs) (hne : ∀ i, i < m → g i ≠ r) (j : Nat) (v : Value) : Mtx base N m fv g M (w.setCell ⟨r, j, none⟩ v) := by
  have hg := grown_set w r j v
  exact ⟨h.far.kept hg (own_apart h.far hr (by decide)), fun i hi => (h.row i hi).kept hg (Or.inr (fun e => hne i hi (Option.some.inj e))), h.inj⟩
/-- One row more. -/
theorem Mtx.push {base N m fv fv' g M w w' r} (h : Mtx base N m fv g M w) (hr : w.ownsRow base 3 1 (.slice (some ⟨r, 0, none⟩) N N) N (intCells N (M m))) (hne : ∀ i, i < m → g i ≠ r)
    (hv : w'.ownsRow base 49 1 fv' (m + 1) (((List.range m).map fun i => .slice (some ⟨g i, 0, none⟩) N N) ++ [.slice (some ⟨r, 0, none⟩) N N])) (hg : w.grownBy w' fv.ownBlock) :
    Mtx base N (m + 1) fv' (fun i => if i = m then r else g i) M w' := by
  refine ⟨?_, fun i hi => ?_, fun i j hi hj e => ?_⟩
  · have e : ((List.range (m + 1)).map fun i => Value.slice (some ⟨if i = m then r else g i, 0, none⟩) N N) = ((List.range m).map fun i => .slice (some ⟨g i, 0, none⟩) N N) ++ [.slice (some ⟨r, 0, none⟩) N N] := by
      rw [List.range_succ, List.map_append]
      congr 1
      · apply List.map_congr_left
        intro i hi
        rw [if_neg (by have := List.mem_range.1 hi; omega)]
      · simp
    rw [e]; exact hv
  · by_cases e : i = m
    · subst e
      simp only [if_true]
      exact hr.kept hg (own_apart hr h.far (by decide))
    · simp only [if_neg e]
      exact (h.row i (by omega)).kept hg (own_apart (h.row i (by omega)) h.far (by decide))
  · by_cases e1 : i = m
    · by_cases e2 : j = m
      · omega
      · rw [if_pos e1, if_neg e2] at e
        exact absurd e.symm (hne j (by omega))
    · by_cases e2 : j = m
      · rw [if_neg e1, if_pos e2] at e
        exact absurd e (hne i (by omega))
      · rw [if_neg e1, if_neg e2] at e
        exact h.inj i j (by omega) (by omega) e

end Go.Proofs.YtppcnlkhdgmaiaaDoor
namespace Go.Proofs.YtppcnlkhdgmaiaaDoor
open Go.RowKit

end Go.Proofs.YtppcnlkhdgmaiaaDoor
namespace Go.Proofs.YtppcnlkhdgmaiaaDoor
open Go.RowKit

end Go.Proofs.YtppcnlkhdgmaiaaDoor
namespace Go.Proofs.YtppcnlkhdgmaiaaDoor
open Go.RowKit


theorem grown_over {w a c : World} {row r : Option Nat} (h : w.grownBy a row) (g : a.grownBy c r) (hr : ∀ k, r = some k → w.heap.size ≤ k) : w.grownBy c row :=
  ⟨g.os.trans h.os, g.tape.trans h.tape, g.output.trans h.output, Nat.le_trans h.size g.size, fun i hi hne => (g.block i (Nat.lt_of_lt_of_le hi h.size) (fun e => by have := hr i e.symm; omega)).trans (h.block i hi hne)⟩

end Go.Proofs.YtppcnlkhdgmaiaaDoor
namespace Go.Proofs.YtppcnlkhdgmaiaaDoor
open Go.RowKit

end Go.Proofs.YtppcnlkhdgmaiaaDoor
namespace Go.Proofs.YtppcnlkhdgmaiaaDoor
open Go.RowKit


end Go.Proofs.YtppcnlkhdgmaiaaDoor
namespace Go.Proofs.YtppcnlkhdgmaiaaDoor
open Go.RowKit

/-- The looks, from the first on. -/
def Hx.lookL (clock : List Nat) : List Int := Hx.sumsF 0 clock
theorem Hx.sumsF_snoc (t : Nat) (cs : List Nat) (c : Nat) : Hx.sumsF t (cs ++ [c]) = Hx.sumsF t cs ++ [((t + cs.sum + c : Nat) : Int)] := by
  induction cs generalizing t with
  | nil => simp [Hx.sumsF]
  | cons d cs ih =>
    show ((t : Int)) :: Hx.sumsF (t + d) (cs ++ [c]) = _
    rw [ih (t + d)]
    show _ = ((t : Int)) :: (Hx.sumsF (t + d) cs ++ _)
    rw [List.sum_cons, Nat.add_assoc t d]
theorem Hx.sumsF_len (t : Nat) (cs : List Nat) : (Hx.sumsF t cs).length = cs.length + 1 := by
  induction cs generalizing t with
  | nil => rfl
  | cons d cs ih => show _ + 1 = _; rw [ih]; rfl
theorem Hx.sumsF_last (t : Nat) (cs : List Nat) : (Hx.sumsF t cs)[cs.length]? = some ((t + cs.sum : Nat) : Int) := by
  induction cs generalizing t with
  | nil => simp [Hx.sumsF]
  | cons d cs ih =>
    show (((t : Int)) :: Hx.sumsF (t + d) cs)[cs.length + 1]? = _
    rw [List.getElem?_cons_succ, ih, List.sum_cons, Nat.add_assoc]
theorem own_drew {w : World} {base : Nat} {e : TypeId} {size : Nat} {v : Value} {n : Nat} {xs : List Value} (h : w.ownsRow base e size v n xs) : w.drew.ownsRow base e size v n xs := h.kept (grown_drewN w 1 none) (by cases v.ownBlock <;> simp)
theorem sum_take_le (l : List Nat) (k : Nat) : (l.take k).sum ≤ l.sum := by
  induction l generalizing k with
  | nil => simp
  | cons a l ih =>
    cases k with
    | zero => simp
    | succ k => simp only [List.take_succ_cons, List.sum_cons]; have := ih k; omega

end Go.Proofs.YtppcnlkhdgmaiaaDoor
namespace Go.Proofs.YtppcnlkhdgmaiaaDoor
open Go.RowKit

theorem decF_itoa (n : Nat) : Hx.decF n = Lib.itoa (n : Int) := by
  have e : ∀ n, Hx.decF n = Lib.decDigits n := by
    intro n
    induction n using Hx.decF.induct with
    | case1 n h => rw [Hx.decF, if_pos h, Lib.decDigits, dif_pos h]
    | case2 n h ih => rw [Hx.decF, if_neg h, Lib.decDigits, dif_neg h, ih]
  rw [e, Lib.itoa, if_neg (by omega)]
  simp
theorem nameB_nm (pl no : Nat) (h : no < 10) : nameB pl no = Hx.nmB pl no := by
  rw [nameB, Hx.decF_one h]; rfl
/-- A step of a table, as the document's Name takes it. -/
abbrev tsAgg (y : Hx.TStp) : Value := .agg #[.int .i64 (y.pl : Int), .int .i64 (y.no : Int), .int .i64 (y.lo : Int), .int .i64 (y.hi : Int), .bool y.rest, .int .i64 (y.mn : Int), .int .i64 (y.mx : Int), .int .i64 (y.t : Int), .int .i64 y.out, .int .i64 y.inn]
theorem Hx.firstF_cases (L : List Int) (x : Int) (n : Nat) : ∀ k, L.length - k = n → Hx.firstF L x k = -1 ∨ ∃ a : Nat, Hx.firstF L x k = (a : Int) ∧ k ≤ a ∧ a < L.length := by
  induction n with
  | zero => intro k hk; exact Or.inl (Hx.firstF_end (by omega))
  | succ n ih =>
    intro k hk
    have hlt : k < L.length := by omega
    by_cases h : x ≤ L[k]
    · exact Or.inr ⟨k, Hx.firstF_here (List.getElem?_eq_getElem hlt) h, Nat.le_refl _, hlt⟩
    · rw [Hx.firstF_next (List.getElem?_eq_getElem hlt) h]
      rcases ih (k + 1) (by omega) with h2 | ⟨a, h2, h3, h4⟩
      · exact Or.inl h2
      · exact Or.inr ⟨a, h2, by omega, h4⟩
theorem Hx.sumsF_bound (t : Nat) (cs : List Nat) : ∀ v ∈ Hx.sumsF t cs, ∃ n : Nat, v = (n : Int) ∧ n ≤ t + cs.sum := by
  induction cs generalizing t with
  | nil => intro v hv; rw [List.mem_singleton.1 hv]; exact ⟨t, rfl, by simp⟩
  | cons c cs ih =>
    intro v hv
    rcases List.mem_cons.1 hv with rfl | hv
    · exact ⟨t, rfl, by omega⟩
    · obtain ⟨n, e, h⟩ := ih (t + c) v hv
      exact ⟨n, e, by rw [List.sum_cons]; omega⟩
theorem joined_list (s t : List UInt8) : Hx.joinedF ⟨s.toArray⟩ ⟨t.toArray⟩ = ⟨(Hx.joinB s t).toArray⟩ := by
  unfold Hx.joinedF Hx.joinB
  have e : (⟨s.toArray⟩ : ByteArray).toList.isEmpty = s.isEmpty := by
    rw [Lib.toList_data]
  rw [e]
  cases s with
  | nil => simp
  | cons a s =>
    simp only [List.isEmpty_cons, reduceCtorEq, if_false, Bool.false_eq_true]
    rw [show (⟨#[44]⟩ : ByteArray) = ⟨([44] : List UInt8).toArray⟩ from rfl, bytes_app, bytes_app]

end Go.Proofs.YtppcnlkhdgmaiaaDoor
