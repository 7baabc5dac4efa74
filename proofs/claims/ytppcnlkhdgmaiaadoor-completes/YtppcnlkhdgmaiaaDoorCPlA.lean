/- What the document's list of orders does: Orders answers the least orders that begin with a list, at most so many. The plain mathematics of orders: which steps may come next, that no beginning of an order is a dead end, the orders one behind the other with the word whether another follows. No program is named here. What the program's small functions of a turn do: moreResting, turnOf, apart, name. -/
import Derived.Test.YtppcnlkhdgmaiaaDoorCRgC
import Derived.Test.YtppcnlkhdgmaiaaDoorCPf
import Derived.Laws.BytesArg
namespace Go.Proofs.YtppcnlkhdgmaiaaDoor
open Go.RowKit

namespace Hx
/-- All orders that begin with a list, the least first (d: how many steps are left). -/
def allO (K : Nat) (L : List Lst) : Nat → List Nat → List (List Nat)
  | 0, l => [l]
  | d + 1, l => (List.range L.length).flatMap fun i => if fitsF K L (l ++ [i]) 0 (fun _ => 0) then allO K L d (l ++ [i]) else []
/-- What one place adds. -/
def branch (K : Nat) (L : List Lst) (d : Nat) (l : List Nat) (i : Nat) : List (List Nat) := if fitsF K L (l ++ [i]) 0 (fun _ => 0) then allO K L d (l ++ [i]) else []
theorem allO_succ (K : Nat) (L : List Lst) (d : Nat) (l : List Nat) : allO K L (d + 1) l = (List.range L.length).flatMap (branch K L d l) := rfl
theorem range_flat {α : Type} (f : Nat → List α) (i : Nat) : (List.range (i + 1)).flatMap f = (List.range i).flatMap f ++ f i := by
  rw [List.range_succ, List.flatMap_append]; simp
theorem take_join {α : Type} (A B : List α) (m : Nat) : A.take m ++ B.take (m - (A.take m).length) = (A ++ B).take m := by
  rw [List.take_append, List.length_take]
  congr 1
  by_cases h : m ≤ A.length
  · rw [Nat.min_eq_left h, show m - A.length = 0 by omega, Nat.sub_self]
  · rw [Nat.min_eq_right (by omega)]
theorem take_full {α : Type} (A B : List α) (m : Nat) (h : m ≤ (A.take m).length) : (A ++ B).take m = A.take m := by
  rw [List.length_take] at h
  rw [List.take_append_of_le_length (by omega)]
theorem range_more {α : Type} (f : Nat → List α) (i n : Nat) (h : i ≤ n) : ∃ B, (List.range n).flatMap f = (List.range i).flatMap f ++ B := by
  obtain ⟨d, rfl⟩ : ∃ d, n = i + d := ⟨n - i, by omega⟩
  induction d with
  | zero => exact ⟨[], by simp⟩
  | succ d ih =>
    obtain ⟨B, hB⟩ := ih (by omega)
    exact ⟨B ++ f (i + d), by rw [show i + (d + 1) = (i + d) + 1 by omega, range_flat, hB, List.append_assoc]⟩
end Hx

theorem own_below {w w' : World} {base : Nat} {e : TypeId} {size : Nat} {v : Value} {n : Nat} {xs : List Value} (h : w.ownsRow base e size v n xs) (hb : Below w.heap.size w w') : w'.ownsRow base e size v n xs := by
  refine h.kept (row := none) ⟨hb.os, hb.tape, hb.output, hb.size, fun k hk _ => hb.block k hk⟩ ?_
  cases v.ownBlock
  · exact Or.inl rfl
  · exact Or.inr (by simp)
/-- A list of orders, as a slice of slices of numbers. -/
def Ords (w : World) (base : Nat) (v : Value) (os : List (List Nat)) : Prop :=
  ∃ vs : List Value, w.ownsRow base 49 1 v os.length vs ∧ ∀ (i : Nat) (o : List Nat), os[i]? = some o → ∃ u, vs[i]? = some u ∧ w.ownsRow 0 3 1 u o.length (ints (nats o))
theorem Ords.nil (w : World) (base : Nat) : Ords w base (.slice none 0 0) [] := ⟨[], World.ownsRow_nil _ _ _ _, by simp⟩
theorem Ords.below {w w' : World} {base : Nat} {v : Value} {os : List (List Nat)} (h : Ords w base v os) (hb : Below w.heap.size w w') : Ords w' base v os := by
  obtain ⟨vs, h1, h2⟩ := h
  refine ⟨vs, own_below h1 hb, fun i o ho => ?_⟩
  obtain ⟨u, e1, e2⟩ := h2 i o ho
  exact ⟨u, e1, own_below e2 hb⟩
theorem Ords.form {w : World} {base : Nat} {v : Value} {os : List (List Nat)} (h : Ords w base v os) : ∃ ao cap, v = .slice ao os.length cap := by
  obtain ⟨vs, h1, _⟩ := h
  exact own_form h1
theorem Ords.snoc {w w' : World} {base : Nat} {v v' u : Value} {os : List (List Nat)} {o : List Nat} {vs : List Value} (h : w.ownsRow base 49 1 v os.length vs)
    (h2 : ∀ (i : Nat) (o : List Nat), os[i]? = some o → ∃ u, vs[i]? = some u ∧ w.ownsRow 0 3 1 u o.length (ints (nats o))) (hu : w.ownsRow 0 3 1 u o.length (ints (nats o)))
    (hv' : w'.ownsRow base 49 1 v' (os.length + 1) (vs ++ [u])) (hg : w.grownBy w' v.ownBlock) : Ords w' base v' (os ++ [o]) := by
  have hlen : vs.length = os.length := by simpa using h.1
  refine ⟨vs ++ [u], by simpa using hv', fun i q hq => ?_⟩
  by_cases hi : i < os.length
  · rw [List.getElem?_append_left hi] at hq
    obtain ⟨x, e1, e2⟩ := h2 i q hq
    exact ⟨x, by rw [List.getElem?_append_left (by omega)]; exact e1, e2.kept hg (own_apart e2 h (by decide))⟩
  · rw [List.getElem?_append_right (by omega)] at hq
    have hi2 : i = os.length := by
      by_cases e : i - os.length = 0
      · omega
      · obtain ⟨k, hk⟩ := Nat.exists_eq_succ_of_ne_zero e
        rw [hk] at hq; simp at hq
    subst hi2
    simp at hq
    subst hq
    exact ⟨u, by rw [List.getElem?_append_right (by omega)]; simp [hlen], hu.kept hg (own_apart hu h (by decide))⟩

theorem Tryd.info49 : (Tryd.prog.info? 49).map (fun i => (i.zero, i.size, i.bytes)) = some (some (.slice none 0 0), 1, 24) := by kernel_rfl

theorem own_not_box {w : World} {base : Nat} {e T : TypeId} {size : Nat} {v : Value} {n b : Nat} {xs : List Value} {a : Array Value} {fr : Nat × Nat} (h : w.ownsRow base e size v n xs) (hb : w.heap[b]? = some (.cells a T fr)) (hne : e ≠ T) : v.ownBlock ≠ some b := by
  rcases h.2 with ⟨rfl, _⟩ | ⟨g, cap, cur, rfl, _, h4, _⟩
  · intro e; cases e
  · intro e
    have : g = b := by simpa [Value.ownBlock] using e
    subst this
    rw [h4] at hb
    simp at hb
    exact hne hb.2.1
theorem Below.box {w wr w' : World} {o : Obj} (h : wr.heap[w.heap.size]? = some o) (hb : Below wr.heap.size wr w') : w'.heap[w.heap.size]? = some o := (hb.block _ (lt_of_block h)).trans h

end Go.Proofs.YtppcnlkhdgmaiaaDoor
namespace Go.Proofs.YtppcnlkhdgmaiaaDoor
namespace Hx

/-- What stands behind a list of steps: the rests under way, the plates' next numbers. -/
def endS (K : Nat) (L : List Lst) : List Nat → Int → (Nat → Nat) → Option (Int × (Nat → Nat))
  | [], r, nx => some (r, nx)
  | i :: l, r, nx => (fitStep K L r nx i).bind fun st => endS K L l st.1 st.2
theorem fitsF_endS (K : Nat) (L : List Lst) : ∀ (l : List Nat) (r : Int) (nx : Nat → Nat), fitsF K L l r nx = (endS K L l r nx).isSome
  | [], _, _ => rfl
  | i :: l, r, nx => by
    rw [fitsF, endS]
    cases fitStep K L r nx i with
    | none => rfl
    | some st => exact fitsF_endS K L l st.1 st.2
theorem endS_snoc (K : Nat) (L : List Lst) (i : Nat) : ∀ (l : List Nat) (r : Int) (nx : Nat → Nat), endS K L (l ++ [i]) r nx = (endS K L l r nx).bind fun st => fitStep K L st.1 st.2 i
  | [], r, nx => by
    rw [List.nil_append]
    show (fitStep K L r nx i).bind (fun st => some (st.1, st.2)) = fitStep K L r nx i
    cases fitStep K L r nx i <;> rfl
  | j :: l, r, nx => by
    rw [List.cons_append, endS, endS]
    cases fitStep K L r nx j with
    | none => rfl
    | some st => exact endS_snoc K L i l st.1 st.2
theorem branch_end {K : Nat} {L : List Lst} {l : List Nat} {r : Int} {nx : Nat → Nat} (h : endS K L l 0 (fun _ => 0) = some (r, nx)) (d i : Nat) :
    branch K L d l i = if (fitStep K L r nx i).isSome then allO K L d (l ++ [i]) else [] := by
  rw [branch, fitsF_endS, endS_snoc, h]; rfl

/-- Where a plate's steps begin among all. -/
def offP (ps : List (List Stp)) (p : Nat) : Nat := ((ps.take p).flatten).length
theorem offP_succ {ps : List (List Stp)} {p : Nat} {q : List Stp} (h : ps[p]? = some q) : offP ps (p + 1) = offP ps p + q.length := by
  simp [offP, List.take_add_one, h]
theorem offP_end (ps : List (List Stp)) : offP ps ps.length = (labs ps).length := by rw [offP, List.take_length, labs_len]
theorem labs_split {ps : List (List Stp)} {p : Nat} {q : List Stp} (h : ps[p]? = some q) : ∃ B, labs ps = labs (ps.take p) ++ lab p q ++ B := by
  have hp : p < ps.length := by
    by_cases e : p < ps.length
    · exact e
    · rw [List.getElem?_eq_none (by omega)] at h; cases h
  have e1 : ps = ps.take p ++ (q :: ps.drop (p + 1)) := by
    conv => lhs; rw [← List.take_append_drop p ps]
    rw [List.drop_eq_getElem_cons hp]
    rw [List.getElem?_eq_getElem hp] at h
    simp at h
    rw [h]
  refine ⟨((ps.drop (p + 1)).mapIdx fun i => lab (i + 1 + p)).flatten, ?_⟩
  have hl : (ps.take p).length = p := by simp; omega
  have e2 : labs ps = labs (ps.take p ++ (q :: ps.drop (p + 1))) := congrArg labs e1
  rw [e2]
  unfold labs
  rw [List.mapIdx_append, List.flatten_append, List.mapIdx_cons, List.flatten_cons, hl, List.append_assoc, Nat.zero_add]
theorem labs_at {ps : List (List Stp)} {p n : Nat} {q : List Stp} {x : Stp} (hq : ps[p]? = some q) (hx : q[n]? = some x) : (labs ps)[offP ps p + n]? = some ⟨p, n, x⟩ := by
  obtain ⟨B, hB⟩ := labs_split hq
  have hn : n < q.length := by
    by_cases e : n < q.length
    · exact e
    · rw [List.getElem?_eq_none (by omega)] at hx; cases hx
  have hl : (labs (ps.take p)).length = offP ps p := labs_len _
  have hl2 : (lab p q).length = q.length := by simp [lab]
  rw [hB, List.append_assoc, List.getElem?_append_right (by omega), hl, show offP ps p + n - offP ps p = n by omega, List.getElem?_append_left (by omega)]
  simp [lab, List.getElem?_mapIdx, hx]
theorem labs_inv {ps : List (List Stp)} {i : Nat} (h : i < (labs ps).length) : ∃ p n q x, ps[p]? = some q ∧ q[n]? = some x ∧ i = offP ps p + n := by
  rw [← offP_end] at h
  suffices hs : ∀ m, m ≤ ps.length → i < offP ps m → ∃ p n q x, ps[p]? = some q ∧ q[n]? = some x ∧ i = offP ps p + n from hs _ (Nat.le_refl _) h
  intro m
  induction m with
  | zero => intro _ h; simp [offP] at h
  | succ m ih =>
    intro hm hi
    have hq : ps[m]? = some (ps.getD m []) := by rw [List.getD_eq_getElem?_getD, List.getElem?_eq_getElem (by omega)]; rfl
    by_cases e : i < offP ps m
    · exact ih (by omega) e
    · rw [offP_succ hq] at hi
      exact ⟨m, i - offP ps m, _, _, hq, List.getElem?_eq_getElem (show i - offP ps m < _ by omega), by omega⟩
theorem range_flat_add {α : Type} (f : Nat → List α) (a b : Nat) : (List.range (a + b)).flatMap f = (List.range a).flatMap f ++ (List.range b).flatMap (fun n => f (a + n)) := by
  rw [List.range_add, List.flatMap_append, List.flatMap_map]
theorem range_plates {α : Type} (ps : List (List Stp)) (f : Nat → List α) : ∀ m, m ≤ ps.length → (List.range (offP ps m)).flatMap f = (List.range m).flatMap (fun p => (List.range (ps.getD p []).length).flatMap (fun n => f (offP ps p + n)))
  | 0, _ => by simp [offP]
  | m + 1, h => by
    have hq : ps[m]? = some (ps.getD m []) := by rw [List.getD_eq_getElem?_getD, List.getElem?_eq_getElem (by omega)]; rfl
    rw [offP_succ hq, range_flat_add, range_plates ps f m (by omega), List.range_succ, List.flatMap_append]
    simp
theorem range_one {α : Type} (g : Nat → List α) (a : Nat) : ∀ m, (∀ n, n < m → n ≠ a → g n = []) → (List.range m).flatMap g = if a < m then g a else []
  | 0, _ => by simp
  | m + 1, h => by
    rw [List.range_succ, List.flatMap_append, range_one g a m (fun n hn => h n (by omega))]
    by_cases e : m = a
    · subst e; simp
    · have hm := h m (by omega) e
      by_cases e2 : a < m
      · simp [e2, hm, show a < m + 1 by omega]
      · simp [e2, hm, show ¬ a < m + 1 by omega]

/-- A step at its place in an order. -/
structure Trn where
  x : Stp
  pl : Nat
  no : Nat
  beg : Bool
/-- Does a rest begin behind the step of this number? -/
def begB (q : List Stp) (n : Nat) : Bool := match q[n + 1]? with | some x => x.rest | none => false
def moreR (t : Trn) : Int := (if t.beg then 1 else 0) - (if t.x.rest then 1 else 0)
def turnAt (ps : List (List Stp)) (p n : Nat) : Option Trn := (ps[p]?).bind fun q => (q[n]?).map fun x => ⟨x, p, n, begB q n⟩
def nextAt (K : Nat) (ps : List (List Stp)) (r : Int) (nx : Nat → Nat) (p : Nat) : Option Trn :=
  match turnAt ps p (nx p) with
  | none => none
  | some t => if r + moreR t ≤ (K : Int) then some t else none
def nxtF (K : Nat) (ps : List (List Stp)) (r : Int) (nx : Nat → Nat) : List Trn := (List.range ps.length).filterMap (nextAt K ps r nx)
def idxT (ps : List (List Stp)) (t : Trn) : Nat := offP ps t.pl + t.no
def bump (nx : Nat → Nat) (p : Nat) : Nat → Nat := fun i => if i = p then nx i + 1 else nx i

/-- What is known of plates that are read: none is empty, no first step ends a rest. -/
def Fine (ps : List (List Stp)) : Prop := ∀ (p : Nat) (q : List Stp), ps[p]? = some q → ∃ (x : Stp) (r : List Stp), q = x :: r ∧ x.rest = false

theorem turnAt_some {ps : List (List Stp)} {p n : Nat} {t : Trn} (h : turnAt ps p n = some t) : ∃ q x, ps[p]? = some q ∧ q[n]? = some x ∧ t = ⟨x, p, n, begB q n⟩ := by
  unfold turnAt at h
  cases hq : ps[p]? with
  | none => rw [hq] at h; cases h
  | some q =>
    cases hx : q[n]? with
    | none => rw [hq] at h; simp [hx] at h
    | some x => rw [hq] at h; simp [hx] at h; exact ⟨q, x, rfl, hx, h.symm⟩
theorem getElem?_lt {α : Type} {l : List α} {i : Nat} {x : α} (h : l[i]? = some x) : i < l.length := by
  by_cases e : i < l.length
  · exact e
  · rw [List.getElem?_eq_none (by omega)] at h; cases h
theorem restAfter_at {ps : List (List Stp)} (hf : Fine ps) {p n : Nat} {q : List Stp} (hq : ps[p]? = some q) (hn : n < q.length) : restAfter (labs ps) (offP ps p + n) = begB q n := by
  unfold restAfter begB
  by_cases e : n + 1 < q.length
  · rw [show offP ps p + n + 1 = offP ps p + (n + 1) by omega, labs_at hq (List.getElem?_eq_getElem e), List.getElem?_eq_getElem e]
  · have hn1 : n + 1 = q.length := by omega
    rw [List.getElem?_eq_none (show q.length ≤ n + 1 by omega), show offP ps p + n + 1 = offP ps (p + 1) + 0 by rw [offP_succ hq]; omega]
    cases hq2 : ps[p + 1]? with
    | none =>
      have hl : ps.length ≤ p + 1 := by
        by_cases e2 : p + 1 < ps.length
        · rw [List.getElem?_eq_getElem e2] at hq2; cases hq2
        · omega
      have := getElem?_lt hq
      have e3 : p + 1 = ps.length := by omega
      rw [e3, offP_end, Nat.add_zero, List.getElem?_eq_none (Nat.le_refl _)]
    | some q2 =>
      obtain ⟨x, r, rfl, hx⟩ := hf _ _ hq2
      rw [labs_at hq2 (show (x :: r)[0]? = some x from rfl)]
      exact hx
theorem fitStep_at {K : Nat} {ps : List (List Stp)} (hf : Fine ps) {r : Int} {nx : Nat → Nat} {p n : Nat} {q : List Stp} {x : Stp} (hq : ps[p]? = some q) (hx : q[n]? = some x) :
    fitStep K (labs ps) r nx (offP ps p + n) = if n = nx p then (if r + moreR ⟨x, p, n, begB q n⟩ ≤ (K : Int) then some (r + moreR ⟨x, p, n, begB q n⟩, bump nx p) else none) else none := by
  unfold fitStep
  rw [labs_at hq hx]
  simp only
  by_cases e : n = nx p
  · rw [if_pos e, if_pos e, restAfter_at hf hq (getElem?_lt hx)]
    have em : r - (if x.rest then 1 else 0) + (if begB q n then 1 else 0) = r + moreR ⟨x, p, n, begB q n⟩ := by simp only [moreR]; omega
    rw [em]
    by_cases h : r + moreR ⟨x, p, n, begB q n⟩ ≤ (K : Int)
    · rw [if_pos h, if_neg (by omega)]; rfl
    · rw [if_neg h, if_pos (by omega)]
  · rw [if_neg e, if_neg e]
theorem nextAt_fit {K : Nat} {ps : List (List Stp)} (hf : Fine ps) {r : Int} {nx : Nat → Nat} {p : Nat} {t : Trn} (h : nextAt K ps r nx p = some t) :
    t.pl = p ∧ t.no = nx p ∧ turnAt ps p (nx p) = some t ∧ r + moreR t ≤ (K : Int) ∧ fitStep K (labs ps) r nx (idxT ps t) = some (r + moreR t, bump nx p) := by
  unfold nextAt at h
  cases ht : turnAt ps p (nx p) with
  | none => rw [ht] at h; cases h
  | some u =>
    rw [ht] at h
    simp only at h
    by_cases hk : r + moreR u ≤ (K : Int)
    · rw [if_pos hk] at h
      cases h
      obtain ⟨q, x, hq, hx, rfl⟩ := turnAt_some ht
      refine ⟨rfl, rfl, rfl, hk, ?_⟩
      show fitStep K (labs ps) r nx (offP ps p + nx p) = _
      rw [fitStep_at hf hq hx, if_pos rfl, if_pos hk]
    · rw [if_neg hk] at h; cases h

/-- The orders behind a list, plate by plate. -/
theorem allO_next {K : Nat} {ps : List (List Stp)} (hf : Fine ps) {l : List Nat} {r : Int} {nx : Nat → Nat} (h : endS K (labs ps) l 0 (fun _ => 0) = some (r, nx)) (d : Nat) :
    allO K (labs ps) (d + 1) l = (nxtF K ps r nx).flatMap fun t => allO K (labs ps) d (l ++ [idxT ps t]) := by
  rw [allO_succ, ← offP_end, range_plates ps _ _ (Nat.le_refl _), nxtF]
  have hg : ∀ p, p < ps.length → (List.range (ps.getD p []).length).flatMap (fun n => branch K (labs ps) d l (offP ps p + n)) = ((nextAt K ps r nx p).toList).flatMap fun t => allO K (labs ps) d (l ++ [idxT ps t]) := by
    intro p hp
    have hq : ps[p]? = some (ps.getD p []) := by rw [List.getD_eq_getElem?_getD, List.getElem?_eq_getElem (by omega)]; rfl
    generalize ps.getD p [] = q at hq ⊢
    rw [range_one _ (nx p)]
    · by_cases hn : nx p < q.length
      · have hx := List.getElem?_eq_getElem hn
        rw [if_pos hn, branch_end h, fitStep_at hf hq hx, if_pos rfl]
        have ht : turnAt ps p (nx p) = some ⟨q[nx p], p, nx p, begB q (nx p)⟩ := by simp [turnAt, hq, hx]
        unfold nextAt
        rw [ht]
        simp only
        by_cases hk : r + moreR ⟨q[nx p], p, nx p, begB q (nx p)⟩ ≤ (K : Int)
        · rw [if_pos hk, if_pos hk]
          simp [idxT]
        · rw [if_neg hk, if_neg hk]; simp
      · have ht : turnAt ps p (nx p) = none := by simp [turnAt, hq, List.getElem?_eq_none (show q.length ≤ nx p by omega)]
        rw [if_neg hn]
        simp [nextAt, ht]
    · intro n hn hne
      rw [branch_end h, fitStep_at hf hq (List.getElem?_eq_getElem hn), if_neg hne]
      rfl
  have hall : ∀ m, m ≤ ps.length → (List.range m).flatMap (fun p => (List.range (ps.getD p []).length).flatMap (fun n => branch K (labs ps) d l (offP ps p + n))) = ((List.range m).filterMap (nextAt K ps r nx)).flatMap fun t => allO K (labs ps) d (l ++ [idxT ps t]) := by
    intro m
    induction m with
    | zero => simp
    | succ m ih =>
      intro hm
      rw [List.range_succ, List.flatMap_append, ih (by omega), List.filterMap_append, List.flatMap_append]
      congr 1
      have := hg m (by omega)
      simp only [List.flatMap_cons, List.flatMap_nil, List.append_nil]
      rw [this]
      cases hn : nextAt K ps r nx m with
      | none => simp [hn]
      | some t => simp [hn]
  exact hall _ (Nat.le_refl _)

/-- A sum over the first numbers. -/
def sumR (f : Nat → Int) : Nat → Int
  | 0 => 0
  | m + 1 => sumR f m + f m
theorem sumR_same {f g : Nat → Int} : ∀ m, (∀ p, p < m → f p = g p) → sumR f m = sumR g m
  | 0, _ => rfl
  | m + 1, h => by rw [sumR, sumR, sumR_same m (fun p hp => h p (by omega)), h m (by omega)]
theorem sumR_upd {f g : Nat → Int} (a : Nat) : ∀ m, a < m → (∀ p, p < m → p ≠ a → g p = f p) → sumR g m = sumR f m + (g a - f a)
  | 0, h, _ => by omega
  | m + 1, h, hs => by
    rw [sumR, sumR]
    by_cases e : a = m
    · subst e
      rw [sumR_same (f := g) (g := f) a (fun p hp => hs p (by omega) (by omega))]
      omega
    · rw [sumR_upd a m (by omega) (fun p hp => hs p (by omega)), hs m (by omega) (by omega)]
      omega
theorem sumR_pos {f : Nat → Int} : ∀ m, (∀ p, p < m → f p ≤ 0) → sumR f m ≤ 0
  | 0, _ => by simp [sumR]
  | m + 1, h => by
    have h1 := sumR_pos m (fun p hp => h p (by omega))
    have h2 := h m (by omega)
    rw [sumR]; omega
theorem sumR_le {f g : Nat → Int} : ∀ m, (∀ p, p < m → f p ≤ g p) → sumR f m ≤ sumR g m
  | 0, _ => by simp [sumR]
  | m + 1, h => by
    have h1 := sumR_le m (fun p hp => h p (by omega))
    have h2 := h m (by omega)
    rw [sumR, sumR]; omega

/-- Is a rest of the plate under way, when so many of its steps are done? -/
def under (ps : List (List Stp)) (nx : Nat → Nat) (p : Nat) : Bool := match turnAt ps p (nx p) with | some t => t.x.rest | none => false
def lenP (ps : List (List Stp)) (p : Nat) : Nat := (ps.getD p []).length
theorem lenP_eq {ps : List (List Stp)} {p : Nat} {q : List Stp} (h : ps[p]? = some q) : lenP ps p = q.length := by
  simp [lenP, List.getD_eq_getElem?_getD, h]

/-- What a list that fits so far comes to. -/
structure Sofar (K : Nat) (ps : List (List Stp)) (l : List Nat) (r : Int) (nx : Nat → Nat) : Prop where
  le : ∀ p, p < ps.length → nx p ≤ lenP ps p
  out : ∀ p, ps.length ≤ p → nx p = 0
  cnt : sumR (fun p => (nx p : Int)) ps.length = (l.length : Int)
  rst : sumR (fun p => if under ps nx p then 1 else 0) ps.length = r
  top : r ≤ (K : Int)
theorem under_bump {ps : List (List Stp)} {nx : Nat → Nat} {p : Nat} {t : Trn} (h : turnAt ps p (nx p) = some t) : under ps nx p = t.x.rest ∧ under ps (bump nx p) p = t.beg := by
  obtain ⟨q, x, hq, hx, rfl⟩ := turnAt_some h
  refine ⟨by simp [under, h], ?_⟩
  have hb : bump nx p p = nx p + 1 := by simp [bump]
  unfold under
  rw [hb]
  unfold turnAt begB
  rw [hq]
  cases hx2 : q[nx p + 1]? with
  | none => simp [hx2]
  | some y => simp [hx2]
theorem Sofar.start (K : Nat) {ps : List (List Stp)} (hf : Fine ps) : Sofar K ps [] 0 (fun _ => 0) := by
  have hu : ∀ p, p < ps.length → (if under ps (fun _ => 0) p then (1 : Int) else 0) = 0 := by
    intro p hp
    have hq : ps[p]? = some (ps.getD p []) := by rw [List.getD_eq_getElem?_getD, List.getElem?_eq_getElem (by omega)]; rfl
    obtain ⟨x, r, e, hx⟩ := hf _ _ hq
    have : turnAt ps p 0 = some ⟨x, p, 0, begB (x :: r) 0⟩ := by rw [e] at hq; simp only [turnAt, hq]; rfl
    simp [under, this, hx]
  refine ⟨fun p _ => Nat.zero_le _, fun _ _ => rfl, ?_, ?_, by omega⟩
  · rw [sumR_same (g := fun _ => (0 : Int)) ps.length (fun p _ => by simp)]
    have : ∀ m, sumR (fun _ => 0) m = 0 := fun m => by induction m with | zero => rfl | succ m ih => rw [sumR, ih]; rfl
    rw [this]; rfl
  · rw [sumR_same (g := fun _ => 0) ps.length hu]
    have : ∀ m, sumR (fun _ => 0) m = 0 := fun m => by induction m with | zero => rfl | succ m ih => rw [sumR, ih]; rfl
    exact this _
theorem Sofar.step {K : Nat} {ps : List (List Stp)} {l : List Nat} {r : Int} {nx : Nat → Nat} (h : Sofar K ps l r nx) {p : Nat} {t : Trn} (ht : turnAt ps p (nx p) = some t) (hk : r + moreR t ≤ (K : Int)) (i : Nat) :
    Sofar K ps (l ++ [i]) (r + moreR t) (bump nx p) := by
  obtain ⟨q, x, hq, hx, rfl⟩ := turnAt_some ht
  have hp := getElem?_lt hq
  obtain ⟨u1, u2⟩ := under_bump ht
  refine ⟨fun a ha => ?_, fun a ha => ?_, ?_, ?_, hk⟩
  · by_cases e : a = p
    · subst e
      have := getElem?_lt hx
      rw [lenP_eq hq]; simp [bump]; omega
    · have := h.le a ha; simp [bump, e]; exact this
  · have : a ≠ p := by omega
    simp [bump, this]; exact h.out a ha
  · rw [sumR_upd (f := fun p => (nx p : Int)) p _ hp (fun a _ e => by simp [bump, e]), h.cnt]
    simp [bump]; omega
  · rw [sumR_upd (f := fun p => if under ps nx p then 1 else 0) p _ hp (fun a _ e => ?_), h.rst]
    · rw [u1, u2]; simp only [moreR]
    · have hba : bump nx p a = nx a := by simp [bump, e]
      have hu : under ps (bump nx p) a = under ps nx a := by unfold under; rw [hba]
      rw [hu]
theorem Sofar.of_end {K : Nat} {ps : List (List Stp)} (hf : Fine ps) : ∀ (l : List Nat) (l0 : List Nat) (r0 : Int) (nx0 : Nat → Nat) (r : Int) (nx : Nat → Nat), Sofar K ps l0 r0 nx0 → endS K (labs ps) l r0 nx0 = some (r, nx) → Sofar K ps (l0 ++ l) r nx
  | [], l0, r0, nx0, r, nx, h, he => by simp [endS] at he; obtain ⟨rfl, rfl⟩ := he; simpa using h
  | i :: l, l0, r0, nx0, r, nx, h, he => by
    rw [endS] at he
    cases hs : fitStep K (labs ps) r0 nx0 i with
    | none => rw [hs] at he; cases he
    | some st =>
      rw [hs] at he
      simp only [Option.bind_some] at he
      have h2 : ∃ p t, turnAt ps p (nx0 p) = some t ∧ r0 + moreR t ≤ (K : Int) ∧ st = (r0 + moreR t, bump nx0 p) := by
        cases hL : (labs ps)[i]? with
        | none => simp [fitStep, hL] at hs
        | some y =>
          obtain ⟨p, n, q, x, hq, hx, rfl⟩ : ∃ p n q x, ps[p]? = some q ∧ q[n]? = some x ∧ i = offP ps p + n := labs_inv (getElem?_lt hL)
          rw [fitStep_at hf hq hx] at hs
          by_cases e : n = nx0 p
          · rw [if_pos e] at hs
            by_cases hk : r0 + moreR ⟨x, p, n, begB q n⟩ ≤ (K : Int)
            · rw [if_pos hk] at hs
              subst e
              exact ⟨p, _, by simp [turnAt, hq, hx], hk, (Option.some.inj hs).symm⟩
            · rw [if_neg hk] at hs; cases hs
          · rw [if_neg e] at hs; cases hs
      obtain ⟨p, t, ht, hk, rfl⟩ := h2
      have := Sofar.of_end hf l (l0 ++ [i]) _ _ r nx (h.step ht hk i) he
      simpa using this

theorem flat_sum (ps : List (List Stp)) : ∀ m, m ≤ ps.length → sumR (fun p => (lenP ps p : Int)) m = (offP ps m : Int)
  | 0, _ => by simp [sumR, offP]
  | m + 1, h => by
    have hq : ps[m]? = some (ps.getD m []) := by rw [List.getD_eq_getElem?_getD, List.getElem?_eq_getElem (by omega)]; rfl
    rw [sumR, flat_sum ps m (by omega), offP_succ hq]
    simp [lenP]
theorem sumR_short {f g : Nat → Int} : ∀ m, (∀ p, p < m → f p ≤ g p) → sumR f m < sumR g m → ∃ p, p < m ∧ f p < g p
  | 0, _, h => by simp [sumR] at h
  | m + 1, hl, h => by
    rw [sumR, sumR] at h
    by_cases e : f m < g m
    · exact ⟨m, by omega, e⟩
    · obtain ⟨p, h1, h2⟩ := sumR_short m (fun p hp => hl p (by omega)) (by have := hl m (by omega); omega)
      exact ⟨p, by omega, h2⟩
theorem sumR_eq_all {f g : Nat → Int} : ∀ m, (∀ p, p < m → f p ≤ g p) → sumR f m = sumR g m → ∀ p, p < m → f p = g p
  | 0, _, _ => fun p hp => by omega
  | m + 1, hl, h => by
    intro p hp
    have h1 := sumR_le m (fun p hp => hl p (by omega))
    have h2 := hl m (by omega)
    rw [sumR, sumR] at h
    by_cases e : p = m
    · subst e; omega
    · exact sumR_eq_all m (fun p hp => hl p (by omega)) (by omega) p (by omega)
/-- All steps done: nothing is next. -/
theorem nxtF_nil {K : Nat} {ps : List (List Stp)} {l : List Nat} {r : Int} {nx : Nat → Nat} (h : Sofar K ps l r nx) (hl : l.length = (labs ps).length) : nxtF K ps r nx = [] := by
  have hall : ∀ p, p < ps.length → (nx p : Int) = (lenP ps p : Int) := by
    refine sumR_eq_all _ (fun p hp => by have := h.le p hp; omega) ?_
    rw [h.cnt, flat_sum ps _ (Nat.le_refl _), offP_end, hl]
  unfold nxtF
  rw [List.filterMap_eq_nil_iff]
  intro p hp
  have hp' : p < ps.length := by simpa using hp
  have hq : ps[p]? = some (ps.getD p []) := by rw [List.getD_eq_getElem?_getD, List.getElem?_eq_getElem (by omega)]; rfl
  have hn : nx p = (ps.getD p []).length := by have := hall p hp'; simp [lenP] at this ⊢; omega
  have : turnAt ps p (nx p) = none := by simp only [turnAt, hq]; simp [hn]
  simp [nextAt, this]
/-- A step is left: something is next (no beginning of an order is a dead end). -/
theorem nxtF_some {K : Nat} {ps : List (List Stp)} {l : List Nat} {r : Int} {nx : Nat → Nat} (h : Sofar K ps l r nx) (hl : l.length < (labs ps).length)
    (hK : ∀ q ∈ ps, ∀ x ∈ q, x.rest = true → 1 ≤ K) : nxtF K ps r nx ≠ [] := by
  have hget : ∀ p, p < ps.length → ps[p]? = some (ps.getD p []) := fun p hp => by rw [List.getD_eq_getElem?_getD, List.getElem?_eq_getElem (by omega)]; rfl
  suffices hs : ∃ p t, p < ps.length ∧ nextAt K ps r nx p = some t by
    obtain ⟨p, t, hp, ht⟩ := hs
    intro e
    unfold nxtF at e
    rw [List.filterMap_eq_nil_iff] at e
    have := e p (by simpa using hp)
    rw [ht] at this; cases this
  by_cases hr : 0 < r
  · -- a rest is under way: it can end
    obtain ⟨p, hp, hu⟩ : ∃ p, p < ps.length ∧ (0 : Int) < (if under ps nx p then 1 else 0) := by
      refine sumR_short (f := fun _ => 0) _ (fun p _ => by split <;> simp) ?_
      have : ∀ m, sumR (fun _ => 0) m = 0 := fun m => by induction m with | zero => rfl | succ m ih => rw [sumR, ih]; rfl
      rw [this, h.rst]; exact hr
    have hu' : under ps nx p = true := by
      cases hb : under ps nx p
      · rw [hb] at hu; simp at hu
      · rfl
    unfold under at hu'
    cases ht : turnAt ps p (nx p) with
    | none => rw [ht] at hu'; cases hu'
    | some t =>
      rw [ht] at hu'
      simp only at hu'
      refine ⟨p, t, hp, ?_⟩
      have hm : moreR t ≤ 0 := by simp only [moreR, hu']; split <;> simp
      have := h.top
      unfold nextAt
      rw [ht]
      simp only
      rw [if_pos (by omega)]
  · obtain ⟨p, hp, hlt⟩ : ∃ p, p < ps.length ∧ (nx p : Int) < (lenP ps p : Int) := by
      refine sumR_short _ (fun p hp => by have := h.le p hp; omega) ?_
      rw [h.cnt, flat_sum ps _ (Nat.le_refl _), offP_end]; omega
    have hq := hget p hp
    have hn : nx p < (ps.getD p []).length := by simp [lenP] at hlt ⊢; omega
    have ht : turnAt ps p (nx p) = some ⟨(ps.getD p [])[nx p], p, nx p, begB (ps.getD p []) (nx p)⟩ := by simp only [turnAt, hq]; simp
    refine ⟨p, ⟨(ps.getD p [])[nx p], p, nx p, begB (ps.getD p []) (nx p)⟩, hp, ?_⟩
    unfold nextAt
    rw [ht]
    simp only
    rw [if_pos]
    have hle : (if under ps nx p then (1 : Int) else 0) ≤ r := by
      have h1 := h.rst
      by_cases hu : under ps nx p
      · have : (0 : Int) < sumR (fun p => if under ps nx p then 1 else 0) ps.length := by
          have h2 := sumR_upd (f := fun _ => 0) (g := fun a => if a = p then 1 else 0) p ps.length hp (fun a _ e => by simp [e])
          have h3 : ∀ m, sumR (fun _ => 0) m = 0 := fun m => by induction m with | zero => rfl | succ m ih => rw [sumR, ih]; rfl
          rw [h3] at h2
          have h4 := sumR_le (f := fun a => if a = p then 1 else 0) (g := fun p => if under ps nx p then 1 else 0) ps.length (fun a _ => by
            by_cases e : a = p
            · subst e; simp [hu]
            · simp [e]; split <;> simp)
          simp at h2
          omega
        omega
      · have h5 : 0 ≤ sumR (fun p => if under ps nx p then 1 else 0) ps.length := by
          have h3 : ∀ m, sumR (fun _ => 0) m = 0 := fun m => by induction m with | zero => rfl | succ m ih => rw [sumR, ih]; rfl
          have := sumR_le (f := fun _ => 0) (g := fun p => if under ps nx p then 1 else 0) ps.length (fun a _ => by split <;> simp)
          rw [h3] at this; exact this
        simp [hu]; omega
    have hu0 : under ps nx p = false := by
      cases hb : under ps nx p
      · rfl
      · rw [hb] at hle; simp at hle; omega
    have hr0 : (ps.getD p [])[nx p].rest = false := by
      have := hu0; unfold under at this; rw [ht] at this; exact this
    simp only [moreR, hr0]
    cases hb : begB (ps.getD p []) (nx p)
    · simp; have := h.top; omega
    · have hx : 1 ≤ K := by
        unfold begB at hb
        cases hy : (ps.getD p [])[nx p + 1]? with
        | none => rw [hy] at hb; cases hb
        | some y =>
          rw [hy] at hb
          exact hK _ (List.mem_of_getElem? hq) y (List.mem_of_getElem? hy) hb
      simp; omega

/-- The orders with the word whether another follows; u: how many turns are not yet tried. -/
def flagL : List (List Nat) → Nat → List (List Nat × Bool)
  | [], _ => []
  | [o], u => [(o, decide (0 < u))]
  | o :: o' :: r, u => (o, true) :: flagL (o' :: r) u
theorem flagL_pos {u : Nat} (hu : 0 < u) : ∀ A, flagL A u = A.map fun o => (o, true)
  | [] => rfl
  | [o] => by simp [flagL, hu]
  | o :: o' :: r => by rw [flagL, flagL_pos hu (o' :: r)]; rfl
theorem flagL_append (u : Nat) {B : List (List Nat)} (hB : B ≠ []) : ∀ A, flagL (A ++ B) u = A.map (fun o => (o, true)) ++ flagL B u
  | [] => rfl
  | [o] => by
    cases B with
    | nil => exact absurd rfl hB
    | cons b r => rfl
  | o :: o' :: r => by
    have := flagL_append u hB (o' :: r)
    rw [List.cons_append, List.cons_append, flagL, ← List.cons_append, this]; rfl
theorem flagL_len (u : Nat) : ∀ A, (flagL A u).length = A.length
  | [] => rfl
  | [_] => rfl
  | o :: o' :: r => by rw [flagL, List.length_cons, flagL_len u (o' :: r)]; rfl
theorem flagL_fst (u : Nat) : ∀ A, (flagL A u).map (·.1) = A
  | [] => rfl
  | [_] => rfl
  | o :: o' :: r => by rw [flagL, List.map_cons, flagL_fst u (o' :: r)]
theorem flagL_last : ∀ A, A ≠ [] → ((flagL A 0).getLast?).map (·.2) = some false
  | [], h => absurd rfl h
  | [_], _ => rfl
  | o :: o' :: r, _ => by
    have := flagL_last (o' :: r) (by simp)
    rw [flagL, List.getLast?_cons]
    cases hl : (flagL (o' :: r) 0).getLast? with
    | none => rw [hl] at this; cases this
    | some x => rw [hl] at this; simpa using this
theorem flagL_early : ∀ A (k : Nat) (o : List Nat) (b : Bool), (flagL A 0)[k]? = some (o, b) → b = decide (k + 1 < A.length)
  | [], k, o, b, h => by simp [flagL] at h
  | [o'], 0, o, b, h => by simp [flagL] at h; simp [h.2]
  | [o'], k + 1, o, b, h => by simp [flagL] at h
  | o' :: o2 :: r, 0, o, b, h => by simp [flagL] at h; simp [h.2.symm]
  | o' :: o2 :: r, k + 1, o, b, h => by
    rw [flagL, List.getElem?_cons_succ] at h
    have := flagL_early (o2 :: r) k o b h
    rw [this]; simp

/-- The steps of a list of places, as turns. -/
def turnOfIdx (ps : List (List Stp)) (i : Nat) : Trn :=
  match (labs ps)[i]? with
  | some y => ⟨y.x, y.pl, y.no, restAfter (labs ps) i⟩
  | none => ⟨⟨0, 0, false, 0, 0⟩, 0, 0, false⟩
theorem turnOfIdx_at {ps : List (List Stp)} (hf : Fine ps) {p n : Nat} {t : Trn} (h : turnAt ps p n = some t) : turnOfIdx ps (idxT ps t) = t := by
  obtain ⟨q, x, hq, hx, rfl⟩ := turnAt_some h
  unfold turnOfIdx idxT
  simp only
  rw [labs_at hq hx]
  simp only
  rw [restAfter_at hf hq (getElem?_lt hx)]

theorem allO_ne {K : Nat} {ps : List (List Stp)} (hf : Fine ps) (hK : ∀ q ∈ ps, ∀ x ∈ q, x.rest = true → 1 ≤ K) : ∀ (d : Nat) (l : List Nat) (r : Int) (nx : Nat → Nat), endS K (labs ps) l 0 (fun _ => 0) = some (r, nx) → l.length + d = (labs ps).length → allO K (labs ps) d l ≠ []
  | 0, l, _, _, _, _ => by simp [allO]
  | d + 1, l, r, nx, he, hl => by
    have hs : Sofar K ps l r nx := by simpa using Sofar.of_end hf l [] 0 _ r nx (Sofar.start K hf) he
    have hn := nxtF_some hs (by omega) hK
    rw [allO_next hf he]
    cases hnx : nxtF K ps r nx with
    | nil => exact absurd hnx hn
    | cons t ts =>
      have hmem : t ∈ nxtF K ps r nx := by rw [hnx]; simp
      unfold nxtF at hmem
      obtain ⟨p, hp, ht⟩ := List.mem_filterMap.1 hmem
      obtain ⟨_, _, _, _, h5⟩ := nextAt_fit hf ht
      have he2 : endS K (labs ps) (l ++ [idxT ps t]) 0 (fun _ => 0) = some (r + moreR t, bump nx p) := by rw [endS_snoc, he]; exact h5
      have := allO_ne hf hK d (l ++ [idxT ps t]) _ _ he2 (by simp; omega)
      rw [List.flatMap_cons]
      intro h
      exact this (List.append_eq_nil_iff.1 h).1

end Hx
end Go.Proofs.YtppcnlkhdgmaiaaDoor
namespace Go.Proofs.YtppcnlkhdgmaiaaDoor
open Go.RowKit

def trnCells (t : Hx.Trn) : List Value := [.int .i64 (t.x.lo : Int), .int .i64 (t.x.hi : Int), .bool t.x.rest, .int .i64 (t.x.mn : Int), .int .i64 (t.x.mx : Int), .int .i64 (t.pl : Int), .int .i64 (t.no : Int), .bool t.beg]

set_option maxRecDepth 100000 in
set_option maxHeartbeats 2000000 in
theorem more_any (t : Hx.Trn) (w : World) :
    Calls Tryd.prog 71 #[.agg #[.int .i64 (t.x.lo : Int), .int .i64 (t.x.hi : Int), .bool t.x.rest, .int .i64 (t.x.mn : Int), .int .i64 (t.x.mx : Int), .int .i64 (t.pl : Int), .int .i64 (t.no : Int), .bool t.beg]] w
      fun e w' => e = .returned (.int .i64 (Hx.moreR t)) ∧ w' = w.alloc (.cells #[.int .i64 (t.x.lo : Int), .int .i64 (t.x.hi : Int), .bool t.x.rest, .int .i64 (t.x.mn : Int), .int .i64 (t.x.mx : Int), .int .i64 (t.pl : Int), .int .i64 (t.no : Int), .bool t.beg] 83) := by
  obtain ⟨⟨lo, hi, rest, mn, mx⟩, pl, no, beg⟩ := t
  simp only [Hx.moreR]
  cases rest <;> cases beg <;>
  · go_enter Tryd.func71, Tryd.ntmps71
    go_wp2_with fail
    go_returns
    exact ⟨rfl, rfl⟩

/-- Where a plate's steps lie. -/
theorem Plts.plate {w : World} {base : Nat} {v : Value} {ps : List (List Hx.Stp)} (h : Plts w base v ps) {p : Nat} {q : List Hx.Stp} (hq : ps[p]? = some q) (hne : 0 < q.length) :
    ∃ g cap g2 cap2, v = .slice (some ⟨g, 0, none⟩) ps.length cap ∧ g < w.heap.size ∧ base ≤ g ∧ g2 < w.heap.size ∧ base ≤ g2 ∧ w.cell? ⟨g, p, none⟩ = some (.slice (some ⟨g2, 0, none⟩) q.length cap2) ∧ q.length ≤ 121 ∧
      ∀ (j : Nat) (x : Hx.Stp), q[j]? = some x → ∀ t, t < 5 → w.cell? ⟨g2, j * 5 + t, none⟩ = (stpCells x)[t]? := by
  obtain ⟨vs, hvs, hpp⟩ := h
  have hp := Hx.getElem?_lt hq
  obtain ⟨g, cap, rfl, hb, hg⟩ := own_pos hvs (by omega)
  obtain ⟨u, hu, hou, hq121⟩ := hpp p q hq
  obtain ⟨g2, cap2, rfl, hb2, hg2⟩ := own_pos hou hne
  refine ⟨g, cap, g2, cap2, rfl, hg, hb, hg2, hb2, ?_, hq121, fun j x hx t ht => own_step hou rfl j x hx t ht⟩
  rw [hvs.cellAt p (by omega)]; exact hu

theorem cA {w : World} {p : Addr} {v : Value} (o : Obj) (h : w.cell? p = some v) : (w.alloc o).cell? p = some v := (grown_alloc w o none).cell h (by simp)
theorem cD {w : World} {p : Addr} {v : Value} (h : w.cell? p = some v) : w.drew.cell? p = some v := h

theorem Plts.below_any {n : Nat} {w w' : World} {base : Nat} {v : Value} {ps : List (List Hx.Stp)} (h : Plts w base v ps) (hb : Below n w w') (hn : w.heap.size ≤ n) : Plts w' base v ps := h.below (hb.mono hn)
theorem bA {w : World} {k : Nat} {x : Obj} (o : Obj) (h : w.heap[k]? = some x) : (w.alloc o).heap[k]? = some x := blk_kept h (grown_alloc w o none) (by simp)
theorem bD {w : World} {k : Nat} {x : Obj} (h : w.heap[k]? = some x) : w.drew.heap[k]? = some x := h
theorem bN {w : World} {k : Nat} (a : Array Value) (T : TypeId) (h : k = w.heap.size) : (w.alloc (.cells a T)).heap[k]? = some (.cells a T (0, 0)) := by subst h; exact blk_new w a T
theorem belA {w W : World} (o : Obj) (h : Below w.heap.size w W) : Below w.heap.size w (W.alloc o) := h.alloc h.size o
theorem belD {n : Nat} {w W : World} (h : Below n w W) : Below n w W.drew := h.drew

set_option maxRecDepth 100000 in
set_option maxHeartbeats 2000000 in
theorem turn_exact (J K D : Nat) (v : Value) (base : Nat) (ps : List (List Hx.Stp)) (w : World) (p n : Nat) (t : Hx.Trn) (hps : Plts w base v ps) (ht : Hx.turnAt ps p n = some t) :
    Calls Tryd.prog 49 #[.agg #[.int .i64 (J : Int), .int .i64 (K : Int), .int .i64 (D : Int), v], .int .i64 (p : Int), .int .i64 (n : Int)] w
      fun e w' => e = .returned (.agg #[.int .i64 (t.x.lo : Int), .int .i64 (t.x.hi : Int), .bool t.x.rest, .int .i64 (t.x.mn : Int), .int .i64 (t.x.mx : Int), .int .i64 (t.pl : Int), .int .i64 (t.no : Int), .bool t.beg]) ∧
        w' = (w.alloc (.cells #[.int .i64 (J : Int), .int .i64 (K : Int), .int .i64 (D : Int), v] 75)).alloc (.cells #[.int .i64 (t.x.lo : Int), .int .i64 (t.x.hi : Int), .bool t.x.rest, .int .i64 (t.x.mn : Int), .int .i64 (t.x.mx : Int), .int .i64 (t.pl : Int), .int .i64 (t.no : Int), .bool t.beg] 83) := by
  obtain ⟨q, x, hq, hx, rfl⟩ := Hx.turnAt_some ht
  have hn := Hx.getElem?_lt hx
  have hp := Hx.getElem?_lt hq
  obtain ⟨g, cap, g2, cap2, rfl, hg, _, hg2, _, hc, hq121, hst⟩ := hps.plate hq (by omega)
  have cP : ∀ o1 o2, ((w.alloc o1).alloc o2).cell? ⟨g, p, none⟩ = some (.slice (some ⟨g2, 0, none⟩) q.length cap2) := fun o1 o2 => cA o2 (cA o1 hc)
  have x0 : ∀ o1 o2, ((w.alloc o1).alloc o2).cell? ⟨g2, n * 5, none⟩ = some (.int .i64 (x.lo : Int)) := fun o1 o2 => cA o2 (cA o1 (hst n x hx 0 (by omega)))
  have x1 : ∀ o1 o2, ((w.alloc o1).alloc o2).cell? ⟨g2, n * 5 + 1, none⟩ = some (.int .i64 (x.hi : Int)) := fun o1 o2 => cA o2 (cA o1 (hst n x hx 1 (by omega)))
  have x2 : ∀ o1 o2, ((w.alloc o1).alloc o2).cell? ⟨g2, n * 5 + 2, none⟩ = some (.bool x.rest) := fun o1 o2 => cA o2 (cA o1 (hst n x hx 2 (by omega)))
  have x3 : ∀ o1 o2, ((w.alloc o1).alloc o2).cell? ⟨g2, n * 5 + 3, none⟩ = some (.int .i64 (x.mn : Int)) := fun o1 o2 => cA o2 (cA o1 (hst n x hx 3 (by omega)))
  have x4 : ∀ o1 o2, ((w.alloc o1).alloc o2).cell? ⟨g2, n * 5 + 4, none⟩ = some (.int .i64 (x.mx : Int)) := fun o1 o2 => cA o2 (cA o1 (hst n x hx 4 (by omega)))
  by_cases hm : n + 1 < q.length
  · obtain ⟨y, hy⟩ : ∃ y, q[n + 1]? = some y := ⟨q[n + 1], List.getElem?_eq_getElem hm⟩
    have hbeg : Hx.begB q n = y.rest := by simp [Hx.begB, hy]
    have y2 : ∀ o1 o2, ((w.alloc o1).alloc o2).cell? ⟨g2, (n + 1) * 5 + 2, none⟩ = some (.bool y.rest) := fun o1 o2 => cA o2 (cA o1 (hst (n + 1) y hy 2 (by omega)))
    have hmI : (n : Int) + 1 < (q.length : Int) := by omega
    rw [hbeg]
    clear hbeg hst hx ht hps hq hc hy
    go_enter Tryd.func49, Tryd.ntmps49
    go_wp2_with fail
    refine bodyPost_ret (v := .agg #[.int .i64 (x.lo : Int), .int .i64 (x.hi : Int), .bool x.rest, .int .i64 (x.mn : Int), .int .i64 (x.mx : Int), .int .i64 (p : Int), .int .i64 (n : Int), .bool y.rest]) (by simp [results, Tryd.results49, go_sem]) rfl ?_
    exact ⟨rfl, rfl⟩
  · have hbeg : Hx.begB q n = false := by simp [Hx.begB, List.getElem?_eq_none (show q.length ≤ n + 1 by omega)]
    have hmI : decide ((n : Int) + 1 < (q.length : Int)) = false := by simp; omega
    rw [hbeg]
    clear hbeg hst hx ht hps hq hc
    go_enter Tryd.func49, Tryd.ntmps49
    go_wp2_with fail
    refine bodyPost_ret (v := .agg #[.int .i64 (x.lo : Int), .int .i64 (x.hi : Int), .bool x.rest, .int .i64 (x.mn : Int), .int .i64 (x.mx : Int), .int .i64 (p : Int), .int .i64 (n : Int), .bool false]) (by simp [results, Tryd.results49, go_sem]) rfl ?_
    exact ⟨rfl, rfl⟩
theorem turn_any (J K D : Nat) (v : Value) (base : Nat) (ps : List (List Hx.Stp)) (w : World) (p n : Nat) (t : Hx.Trn) (hps : Plts w base v ps) (ht : Hx.turnAt ps p n = some t) :
    Calls Tryd.prog 49 #[.agg #[.int .i64 (J : Int), .int .i64 (K : Int), .int .i64 (D : Int), v], .int .i64 (p : Int), .int .i64 (n : Int)] w
      fun e w' => e = .returned (.agg #[.int .i64 (t.x.lo : Int), .int .i64 (t.x.hi : Int), .bool t.x.rest, .int .i64 (t.x.mn : Int), .int .i64 (t.x.mx : Int), .int .i64 (t.pl : Int), .int .i64 (t.no : Int), .bool t.beg]) ∧ Below w.heap.size w w' :=
  (turn_exact J K D v base ps w p n t hps ht).mono fun e w' h => ⟨h.1, by rw [h.2]; exact belA _ (belA _ (Below.refl _ _))⟩

set_option maxRecDepth 100000 in
set_option maxHeartbeats 2000000 in
theorem apart_any (J : Nat) (x : Hx.Stp) (lo hi : Nat) (w : World) (hJ : J < 1000) (h1 : x.lo < 1000) (h2 : x.hi < 1000) (h3 : lo < 1000) (h4 : hi < 1000) :
    Calls Tryd.prog 48 #[.int .i64 (J : Int), .agg #[.int .i64 (x.lo : Int), .int .i64 (x.hi : Int), .bool x.rest, .int .i64 (x.mn : Int), .int .i64 (x.mx : Int)], .agg #[.int .i64 (lo : Int), .int .i64 (hi : Int)]] w
      fun e w' => e = .returned (.agg #[.int .i64 ((J : Int) + x.hi + lo), .int .i64 ((x.lo : Int) + hi - J)]) ∧ w' = (((w.alloc (.cells #[.int .i64 (x.lo : Int), .int .i64 (x.hi : Int), .bool x.rest, .int .i64 (x.mn : Int), .int .i64 (x.mx : Int)] 81)).alloc (.cells #[.int .i64 (lo : Int), .int .i64 (hi : Int)] 79)).alloc (.cells #[.int .i64 ((J : Int) + x.hi + lo), .int .i64 ((x.lo : Int) + hi - J)] 79)) := by
  obtain ⟨xlo, xhi, rest, mn, mx⟩ := x
  simp only at h1 h2 ⊢
  go_enter Tryd.func48, Tryd.ntmps48
  go_wp2_with fail
  refine bodyPost_ret (v := .agg #[.int .i64 ((J : Int) + xhi + lo), .int .i64 ((xlo : Int) + hi - J)]) (by simp [results, Tryd.results48, go_sem]) rfl ?_
  exact ⟨rfl, rfl⟩

/-- The name of a step: its letter and its digit. -/
def Hx.nameB (pl no : Nat) : ByteArray := ⟨#[UInt8.ofNat (97 + pl), UInt8.ofNat (48 + no)]⟩

set_option maxRecDepth 100000 in
set_option maxHeartbeats 2000000 in
theorem tname_any (t : Hx.Trn) (w : World) (hp : t.pl < 26) (hn : t.no < 10) :
    Calls Tryd.prog 33 #[.agg #[.int .i64 (t.x.lo : Int), .int .i64 (t.x.hi : Int), .bool t.x.rest, .int .i64 (t.x.mn : Int), .int .i64 (t.x.mx : Int), .int .i64 (t.pl : Int), .int .i64 (t.no : Int), .bool t.beg]] w
      fun e w' => e = .returned (.string (Hx.nameB t.pl t.no)) ∧ Below w.heap.size w w' := by
  obtain ⟨⟨lo, hi, rest, mn, mx⟩, pl, no, beg⟩ := t
  simp only at hp hn ⊢
  have hstr : strOfNums [97 + (pl : Int), 48 + (no : Int)] = Hx.nameB pl no := by
    have e1 : (97 + (pl : Int)).toNat = 97 + pl := by omega
    have e2 : (48 + (no : Int)).toNat = 48 + no := by omega
    simp [strOfNums, Hx.nameB, e1, e2]
  have hconv : (convert 127 9 (.slice (some ⟨w.heap.size + 1, 0, none⟩) 2 2)).run Tryd.prog ((w.alloc (.cells #[.int .i64 (lo : Int), .int .i64 (hi : Int), .bool rest, .int .i64 (mn : Int), .int .i64 (mx : Int), .int .i64 (pl : Int), .int .i64 (no : Int), .bool beg] 83)).alloc (.cells #[.int .u8 (97 + (pl : Int)), .int .u8 (48 + (no : Int))] 5)) = .ok (.string (Hx.nameB pl no)) ((w.alloc (.cells #[.int .i64 (lo : Int), .int .i64 (hi : Int), .bool rest, .int .i64 (mn : Int), .int .i64 (mx : Int), .int .i64 (pl : Int), .int .i64 (no : Int), .bool beg] 83)).alloc (.cells #[.int .u8 (97 + (pl : Int)), .int .u8 (48 + (no : Int))] 5)) := by
    rw [← hstr]
    have hb := blk_new (w.alloc (.cells #[.int .i64 (lo : Int), .int .i64 (hi : Int), .bool rest, .int .i64 (mn : Int), .int .i64 (mx : Int), .int .i64 (pl : Int), .int .i64 (no : Int), .bool beg] 83)) #[.int .u8 (97 + (pl : Int)), .int .u8 (48 + (no : Int))] 5
    rw [size_alloc_] at hb
    refine run_convert_bytes_arg _ 127 5 Tryd.underlying127 Tryd.underlying5 (w.heap.size + 1) 0 2 2 [97 + (pl : Int), 48 + (no : Int)] rfl (fun i hi => ?_) 9 Tryd.underlying9
    rw [blk_cell hb]
    match i, hi with
    | 0, _ => rfl
    | 1, _ => rfl
  clear hstr
  have HBE := hide (((Below.refl w.heap.size w).alloc (Nat.le_refl _) (.cells #[.int .i64 (lo : Int), .int .i64 (hi : Int), .bool rest, .int .i64 (mn : Int), .int .i64 (mx : Int), .int .i64 (pl : Int), .int .i64 (no : Int), .bool beg] 83)).alloc (by simp) (.cells #[.int .u8 (97 + (pl : Int)), .int .u8 (48 + (no : Int))] 5))
  go_enter Tryd.func33, Tryd.ntmps33
  go_wp2_with fail
  go_returns
  exact ⟨rfl, unhide HBE⟩

end Go.Proofs.YtppcnlkhdgmaiaaDoor
