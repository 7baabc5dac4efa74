/- What the document's test of a table's step does: holds, right. Plain facts on steps with their plates and numbers, for the document's own Check. -/
import Derived.Test.YtppcnlkhdgmaiabGreatDoorCRgE
import Derived.Test.YtppcnlkhdgmaiabGreatDoorCRfD
namespace Go.Proofs.YtppcnlkhdgmaiabGreatDoor
open Go.RowKit


theorem tssCells_at (l : List Hx.TStp) (j : Nat) (y : Hx.TStp) (h : l[j]? = some y) (t : Nat) (ht : t < 10) : (tssCells l)[j * 10 + t]? = (tsCells y)[t]? := by
  induction l generalizing j with
  | nil => simp at h
  | cons z r ih =>
    have e : tssCells (z :: r) = tsCells z ++ tssCells r := rfl
    rw [e]
    have hl : (tsCells z).length = 10 := rfl
    cases j with
    | zero =>
      simp at h
      subst h
      rw [Nat.zero_mul, Nat.zero_add, List.getElem?_append_left (by omega)]
    | succ j =>
      rw [List.getElem?_append_right (by omega), hl, show (j + 1) * 10 + t - 10 = j * 10 + t by omega]
      exact ih j (by simpa using h)
theorem own_ts {w : World} {base g cap : Nat} {l : List Hx.TStp} (h : w.ownsRow base 53 10 (.slice (some ⟨g, 0, none⟩) l.length cap) l.length (tssCells l)) (j : Nat) (y : Hx.TStp) (hy : l[j]? = some y) (t : Nat) (ht : t < 10) :
    w.cell? ⟨g, j * 10 + t, none⟩ = (tsCells y)[t]? := by
  have hj : j < l.length := by
    by_cases e : j < l.length
    · exact e
    · rw [List.getElem?_eq_none (by omega)] at hy; cases hy
  rw [h.cellAt (j * 10 + t) (by omega), tssCells_at l j y hy t ht]

set_option maxRecDepth 100000 in
set_option maxHeartbeats 4000000 in
theorem holds_any (J : Nat) (x1 x2 x4 : Int) (g cap : Nat) (l : List Hx.TStp) (i p : Nat) (ii pi : Int) (w : World) (ho : w.ownsRow 0 53 10 (.slice (some ⟨g, 0, none⟩) l.length cap) l.length (tssCells l)) (hl : l.length ≤ 1001) (hi : i ≤ l.length) (hg : g < w.heap.size) (hii : ii = (i : Int)) (hpi : pi = (p : Int)) :
    Calls Tryz.prog 58 #[.agg #[.int .i64 (J : Int), .int .i64 x1, .int .i64 x2, .slice (some ⟨g, 0, none⟩) l.length cap, .int .i64 x4], .int .i64 ii, .int .i64 pi] w fun e w' => e = .returned (.tuple #[.int .i64 (Hx.holdF (l.take i) p).1, .int .i64 ((Hx.holdF (l.take i) p).2 : Int)]) ∧ Below w.heap.size w w' := by
  subst hii hpi
  have HO := hide ho
  clear ho
  go_enter Tryz.func58, Tryz.ntmps58
  go_wp2_with fail
  go_loopg [8, 9, 10] i (fun gk inn n kk wr => ∃ k : Nat, k ≤ i ∧ gk = i - k ∧ kk = .int .i64 (k : Int) ∧ inn = .int .i64 (Hx.holdF (l.take k) p).1 ∧ n = .int .i64 ((Hx.holdF (l.take k) p).2 : Int) ∧ Below w.heap.size w wr ∧ wr.heap[w.heap.size]? = some (.cells #[.int .i64 (J : Int), .int .i64 x1, .int .i64 x2, .slice (some ⟨g, 0, none⟩) l.length cap, .int .i64 x4] 49 (0, 0)))
  case atStart => exact ⟨0, Nat.zero_le _, rfl, rfl, rfl, rfl, (Below.refl _ _).alloc (Nat.le_refl _) _, blk_new _ _ _⟩
  case round =>
    obtain ⟨k, hk, rfl, rfl, rfl, rfl, hbe, hbox⟩ := hrel
    have b3 : wr.cell? ⟨w.heap.size, 3, none⟩ = some (.slice (some ⟨g, 0, none⟩) l.length cap) := blk_cell hbox 3
    have HBE := hide hbe
    have HBOX := hide hbox
    clear hbe hbox
    have hle := Nat.le_trans (Hx.holdF_le (l.take k) p) (show (l.take k).length ≤ 1001 by rw [List.length_take]; omega)
    by_cases hlt : k < i
    · obtain ⟨y, hy⟩ : ∃ y, l[k]? = some y := ⟨l[k], List.getElem?_eq_getElem (by omega)⟩
      have cx : ∀ t, t < 10 → wr.cell? ⟨g, k * 10 + t, none⟩ = (tsCells y)[t]? := fun t ht => by
        rw [(unhide HBE).cell (p := ⟨g, k * 10 + t, none⟩) hg]; exact own_ts (unhide HO) k y hy t ht
      have y0 : wr.cell? ⟨g, k * 10, none⟩ = some (.int .i64 (y.pl : Int)) := cx 0 (by omega)
      have y9 : wr.cell? ⟨g, k * 10 + 9, none⟩ = some (.int .i64 y.inn) := cx 9 (by omega)
      have HT : Hid (Hx.holdF (l.take (k + 1)) p = if y.pl = p then (y.inn, (Hx.holdF (l.take k) p).2 + 1) else Hx.holdF (l.take k) p) := by
        show _ = _
        rw [List.take_add_one, hy]; exact Hx.holdF_snoc _ _ _
      clear hy cx
      have hkl : (k : Int) < (l.length : Int) := by omega
      generalize Hx.holdF (l.take k) p = h at *
      obtain ⟨h1, h2⟩ := h
      simp only at hle ⊢
      by_cases hp : y.pl = p
      · have hp' : ((y.pl : Int) == (p : Int)) = true := by simp [hp]
        have HT2 : Hid (Hx.holdF (l.take (k + 1)) p = (y.inn, h2 + 1)) := by show _ = _; rw [unhide HT, if_pos hp]
        clear hp HT
        go_wp2_with fail
        go_roundg (i - (k + 1))
        case measure => omega
        case rel => exact ⟨k + 1, by omega, rfl, by go_num, by rw [unhide HT2], by rw [unhide HT2]; go_num, unhide HBE, unhide HBOX⟩
      · have hp' : ((y.pl : Int) == (p : Int)) = false := by simp; omega
        have HT2 : Hid (Hx.holdF (l.take (k + 1)) p = (h1, h2)) := by show _ = _; rw [unhide HT, if_neg hp]
        clear hp HT
        go_wp2_with fail
        go_roundg (i - (k + 1))
        case measure => omega
        case rel => exact ⟨k + 1, by omega, rfl, by go_num, by rw [unhide HT2], by rw [unhide HT2], unhide HBE, unhide HBOX⟩
    · have hke : k = i := by omega
      subst hke
      go_wp2_with fail
      go_returns
      exact ⟨rfl, unhide HBE⟩

end Go.Proofs.YtppcnlkhdgmaiabGreatDoor
namespace Go.Proofs.YtppcnlkhdgmaiabGreatDoor
open Go.RowKit

theorem lstsCells_at (l : List Hx.Lst) (j : Nat) (y : Hx.Lst) (h : l[j]? = some y) (t : Nat) (ht : t < 10) : (lstsCells l)[j * 10 + t]? = (lstCells y)[t]? := by
  induction l generalizing j with
  | nil => simp at h
  | cons z r ih =>
    have e : lstsCells (z :: r) = lstCells z ++ lstsCells r := rfl
    rw [e]
    have hl : (lstCells z).length = 10 := rfl
    cases j with
    | zero =>
      simp at h
      subst h
      rw [Nat.zero_mul, Nat.zero_add, List.getElem?_append_left (by omega)]
    | succ j =>
      rw [List.getElem?_append_right (by omega), hl, show (j + 1) * 10 + t - 10 = j * 10 + t by omega]
      exact ih j (by simpa using h)

theorem own_lst {w : World} {base g cap : Nat} {l : List Hx.Lst} (h : w.ownsRow base 53 10 (.slice (some ⟨g, 0, none⟩) l.length cap) l.length (lstsCells l)) (j : Nat) (y : Hx.Lst) (hy : l[j]? = some y) (t : Nat) (ht : t < 10) :
    w.cell? ⟨g, j * 10 + t, none⟩ = (lstCells y)[t]? := by
  have hj : j < l.length := by
    by_cases e : j < l.length
    · exact e
    · rw [List.getElem?_eq_none (by omega)] at hy; cases hy
  rw [h.cellAt (j * 10 + t) (by omega), lstsCells_at l j y hy t ht]

namespace Hx
theorem firstWrong_labs (k : Nat) (ps : List (List Stp)) : firstWrong k ps = (labs ps).findIdx? (fun y => wrongB k y.x) := by
  unfold firstWrong
  rw [← labs_x, List.findIdx?_map]
  rfl
theorem lab_no {i : Nat} {p : List Stp} {y : Lst} (h : y ∈ lab i p) : y.no < p.length := by
  obtain ⟨n, hn⟩ := List.getElem?_of_mem h
  simp only [lab, List.getElem?_mapIdx] at hn
  cases hp : p[n]? with
  | none => rw [hp] at hn; cases hn
  | some x =>
    rw [hp] at hn
    simp at hn
    rw [← hn]
    show n < p.length
    by_cases e : n < p.length
    · exact e
    · rw [List.getElem?_eq_none (by omega)] at hp; cases hp
theorem lab_has {i : Nat} {p : List Stp} {n : Nat} (h : n < p.length) : ∃ y ∈ lab i p, y.no = n := by
  refine ⟨⟨i, n, p[n]⟩, ?_, rfl⟩
  apply List.mem_of_getElem? (i := n)
  simp [lab, h]
theorem labs_mem (ps : List (List Stp)) (y : Lst) : y ∈ labs ps ↔ ∃ i p, ps[i]? = some p ∧ y ∈ lab i p := by
  unfold labs
  rw [List.mem_flatten]
  constructor
  · rintro ⟨l, hl, hy⟩
    obtain ⟨i, hi⟩ := List.getElem?_of_mem hl
    rw [List.getElem?_mapIdx] at hi
    cases hp : ps[i]? with
    | none => rw [hp] at hi; cases hi
    | some p =>
      rw [hp] at hi
      simp at hi
      exact ⟨i, p, hp, by rw [hi]; exact hy⟩
  · rintro ⟨i, p, hp, hy⟩
    refine ⟨lab i p, ?_, hy⟩
    apply List.mem_of_getElem? (i := i)
    rw [List.getElem?_mapIdx, hp]; rfl
/-- A plate has more than five steps just if some step's number is five or more. -/
theorem many_labs (ps : List (List Stp)) : ps.any (fun p => decide (5 < p.length)) = (labs ps).any (fun y => decide (5 ≤ y.no)) := by
  rw [Bool.eq_iff_iff, List.any_eq_true, List.any_eq_true]
  constructor
  · rintro ⟨p, hp, h⟩
    obtain ⟨i, hi⟩ := List.getElem?_of_mem hp
    obtain ⟨y, hy, hn⟩ := lab_has (i := i) (p := p) (n := 5) (by simpa using h)
    exact ⟨y, (labs_mem ps y).2 ⟨i, p, hi, hy⟩, by simp [hn]⟩
  · rintro ⟨y, hy, h⟩
    obtain ⟨i, p, hp, hm⟩ := (labs_mem ps y).1 hy
    have := lab_no hm
    refine ⟨p, List.mem_of_getElem? hp, ?_⟩
    simp at h ⊢
    omega
theorem manyB_labs (ps : List (List Stp)) : manyB ps = ((labs ps).any (fun y => decide (5 ≤ y.no)) || decide (4 < ps.length) || decide (9 < (labs ps).length)) := by
  rw [manyB, many_labs, labs_len]
theorem wrong_true {k : Nat} {lo hi mn mx : Nat} {rest : Bool} (h : wrongB k ⟨lo, hi, rest, mn, mx⟩ = true) :
    (((lo : Int) == 0) = true) ∨ (((lo : Int) == 0) = false ∧ (hi : Int) < (lo : Int)) ∨ (((lo : Int) == 0) = false ∧ ¬ (hi : Int) < (lo : Int) ∧ rest = true ∧ (mx : Int) < (mn : Int)) ∨
    (((lo : Int) == 0) = false ∧ ¬ (hi : Int) < (lo : Int) ∧ rest = true ∧ ¬ (mx : Int) < (mn : Int) ∧ ((k : Int) == 0) = true) := by
  simp only [wrongB, Bool.or_eq_true, beq_iff_eq, decide_eq_true_eq, Bool.and_eq_true] at h
  by_cases h1 : lo = 0
  · exact Or.inl (by simp [h1])
  · have e1 : ((lo : Int) == 0) = false := by simp; omega
    by_cases h2 : hi < lo
    · exact Or.inr (Or.inl ⟨e1, by omega⟩)
    · by_cases h3 : mx < mn
      · refine Or.inr (Or.inr (Or.inl ⟨e1, by omega, ?_, by omega⟩))
        rcases h with (h | h) | h
        · exact absurd h h1
        · exact absurd h h2
        · exact h.1
      · refine Or.inr (Or.inr (Or.inr ⟨e1, by omega, ?_, by omega, ?_⟩))
        · rcases h with (h | h) | h
          · exact absurd h h1
          · exact absurd h h2
          · exact h.1
        · rcases h with (h | h) | ⟨_, h | h⟩
          · exact absurd h h1
          · exact absurd h h2
          · simp [h]
          · exact absurd h h3
theorem wrong_false {k : Nat} {lo hi mn mx : Nat} {rest : Bool} (h : wrongB k ⟨lo, hi, rest, mn, mx⟩ = false) :
    ((lo : Int) == 0) = false ∧ ¬ (hi : Int) < (lo : Int) ∧ (rest = false ∨ (rest = true ∧ ¬ (mx : Int) < (mn : Int) ∧ ((k : Int) == 0) = false)) := by
  simp only [wrongB, Bool.or_eq_false_iff, beq_eq_false_iff_ne, decide_eq_false_iff_not, Bool.and_eq_false_iff] at h
  obtain ⟨⟨h1, h2⟩, h3⟩ := h
  refine ⟨by simp; omega, by omega, ?_⟩
  rcases h3 with h3 | ⟨h3, h4⟩
  · exact Or.inl h3
  · cases rest
    · exact Or.inl rfl
    · exact Or.inr ⟨rfl, by omega, by simp; omega⟩
theorem first_lab {k : Nat} {ps : List (List Stp)} {j : Nat} {y : Lst} (hy : (labs ps)[j]? = some y) (h1 : ∀ z ∈ (labs ps).take j, wrongB k z.x = false) (hw : wrongB k y.x = true) : firstWrong k ps = some j := by
  have hj : j ≤ (labs ps).length := by
    by_cases e : j < (labs ps).length
    · omega
    · rw [List.getElem?_eq_none (by omega)] at hy; cases hy
  rw [firstWrong_labs]
  conv => lhs; rw [cons_split (labs ps) j y hy]
  rw [List.findIdx?_append, List.findIdx?_eq_none_iff.2 h1, Option.none_or, List.findIdx?_cons, if_pos hw]
  simp [Nat.min_eq_left hj]
theorem first_lab_none {k : Nat} {ps : List (List Stp)} (h1 : ∀ z ∈ labs ps, wrongB k z.x = false) : firstWrong k ps = none := by
  rw [firstWrong_labs]; exact List.findIdx?_eq_none_iff.2 h1
theorem many_lab {ps : List (List Stp)} {y : Lst} (hy : y ∈ labs ps) (h : 5 ≤ y.no) : manyB ps = true := by
  have : (labs ps).any (fun y => decide (5 ≤ y.no)) = true := List.any_eq_true.2 ⟨y, hy, by simpa using h⟩
  simp [manyB_labs, this]
theorem many_lab_end {ps : List (List Stp)} (h : ∀ z ∈ labs ps, ¬ 5 ≤ z.no) : manyB ps = (decide (4 < ps.length) || decide (9 < (labs ps).length)) := by
  have : (labs ps).any (fun y => decide (5 ≤ y.no)) = false := by
    rw [List.any_eq_false]
    intro y hy
    simpa using h y hy
  rw [manyB_labs, this, Bool.false_or]
theorem labs_pos {ps : List (List Stp)} (h : 0 < ps.length) (hne : ∀ p ∈ ps, 0 < p.length) : 0 < (labs ps).length := by
  rw [labs_len]
  cases ps with
  | nil => simp at h
  | cons p r =>
    have := hne p (by simp)
    simp only [List.flatten_cons, List.length_append]
    omega
theorem take_mem_snoc {l : List Lst} {j : Nat} {y : Lst} (hy : l[j]? = some y) {P : Lst → Prop} (h1 : ∀ z ∈ l.take j, P z) (h2 : P y) : ∀ z ∈ l.take (j + 1), P z := by
  intro z hz
  rw [List.take_add_one, hy] at hz
  simp at hz
  rcases hz with hz | rfl
  · exact h1 z hz
  · exact h2
end Hx

end Go.Proofs.YtppcnlkhdgmaiabGreatDoor
