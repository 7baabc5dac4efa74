/- The plain mathematics of what the document's Plan needs: whether there are more orders; times in the order's order; places where plates rest. No program is named here. The plain mathematics of places: where the plates stay behind the first steps of an order; that a timetable is a right table. The plain mathematics of what Plan tells: it is a right table of all steps, whose times hold. The plain mathematics of what Plan tells of a plan's text, read back: when it is over; that a greater budget loses nothing. What hatchkeep's tight answers: the first rest that no times keep. The plain mathematics of what the machine may never do: over a right table its steps begin and are over as they should. No program is named here. What hatchkeep's whole answers: that the entries have each step of a plan once, as it is, in its plate's order. -/
import Derived.Test.YtppcnlkhdgmaiaaDoorCEqD
import Derived.Test.YtppcnlkhdgmaiaaDoorCPz
import Derived.Test.YtppcnlkhdgmaiaaDoorCRrB
import Derived.Test.YtppcnlkhdgmaiaaDoorCPs
import Derived.Test.YtppcnlkhdgmaiaaDoorCPlC
import Derived.Test.YtppcnlkhdgmaiaaDoorCPlB
namespace Go.Proofs.YtppcnlkhdgmaiaaDoor
namespace Hx

theorem labs_small {ps : List (List Stp)} (h : Small ps) : SmL (labs ps) := by
  intro y hy
  have h1 : y.x ∈ ps.flatten := by rw [← labs_x]; exact List.mem_map_of_mem hy
  obtain ⟨q, hq, hx⟩ := List.mem_flatten.1 h1
  exact h q hq y.x hx
theorem last_at {α : Type} {l : List α} {x : α} (h : l.getLast? = some x) : l[l.length - 1]? = some x := by rw [List.getLast?_eq_getElem?] at h; exact h
/-- Are there more orders than so many? -/
theorem more_is {J K D : Nat} {ps : List (List Stp)} (h : GoodP J K D ps) (N : Nat) : moreF K ps N = decide (N < (allO K (labs ps) (labs ps).length []).length) := by
  have hne : allO K (labs ps) (labs ps).length [] ≠ [] := allO_ne h.fine (fun q hq x hx hr => ((h.right q hq x hx).2.2 hr).1) _ [] 0 (fun _ => 0) rfl (by simp)
  obtain ⟨A, hA⟩ : ∃ A, A = allO K (labs ps) (labs ps).length [] := ⟨_, rfl⟩
  have hpos : 0 < A.length := by rw [hA]; exact List.length_pos_iff.2 hne
  unfold moreF ordersF
  rw [← hA]
  by_cases hN : N = 0
  · subst hN; rw [if_pos rfl]; simp [hpos]
  · rw [if_neg hN]
    unfold lastB
    have hl : ((flagL A 0).take N).length = min N A.length := by rw [List.length_take, flagL_len]
    cases hg : ((flagL A 0).take N).getLast? with
    | none =>
      have := List.getLast?_eq_none_iff.1 hg
      rw [this] at hl
      simp only [List.length_nil] at hl
      omega
    | some x =>
      have h1 := last_at hg
      rw [List.getElem?_take, hl] at h1
      split at h1
      · obtain ⟨o, b⟩ := x
        have := flagL_early A _ o b h1
        simp only
        rw [this]
        by_cases e : N < A.length
        · simp [e]; omega
        · simp [e]; omega
      · cases h1

theorem early_least {J : Nat} {o : List Trn} {f : Nat → Int} (h : earlyF J o = some f) : LeastL o.length (limsOf J o) f := by
  unfold earlyF at h
  exact roundsF_some (limsOf_in J o) _ _ _ (fun _ _ => Int.le_refl _) (fun s hs i hi => hs.1 i hi) h
theorem early_up {J : Nat} {o : List Trn} {f : Nat → Int} (h : earlyF J o = some f) {k : Nat} (hk : k + 1 < o.length) : f k ≤ f (k + 1) := by
  have hl := (early_least h).1.2
  have h1 : o[k + 1]? = some o[k + 1] := List.getElem?_eq_getElem hk
  have h0 : o[k]? = some o[k] := List.getElem?_eq_getElem (by omega)
  have := hl ⟨k, k + 1, (J : Int) + o[k].x.hi⟩ (List.mem_flatMap.2 ⟨k + 1, List.mem_range.2 hk, by
    unfold limAt
    rw [h1]
    refine List.mem_append.2 (Or.inl ?_)
    unfold lim1
    rw [if_pos (by omega), show k + 1 - 1 = k by omega, h0]
    simp⟩)
  simp only at this
  omega
theorem early_mono {J : Nat} {o : List Trn} {f : Nat → Int} (h : earlyF J o = some f) : ∀ d k, k + d < o.length → f k ≤ f (k + d)
  | 0, k, _ => Int.le_refl _
  | d + 1, k, hk => Int.le_trans (early_mono h d k (by omega)) (early_up h (k := k + d) (by omega))

/-- Where the plates stay behind these steps. -/
def wStT : List Trn → List Int → List Int
  | [], st => st
  | t :: l, st => wStT l (sIn t (sOut t st))
theorem wStT_snoc (l : List Trn) (t : Trn) (st : List Int) : wStT (l ++ [t]) st = sIn t (sOut t (wStT l st)) := by
  induction l generalizing st with
  | nil => rfl
  | cons a l ih => exact ih _
theorem wSt_T : ∀ (l : List (Trn × Int)) (st : List Int), wSt l st = wStT (l.map (·.1)) st
  | [], _ => rfl
  | (_, _) :: l, _ => wSt_T l _
theorem getD_set' {st : List Int} {p q : Nat} {z d : Int} : (st.set p z).getD q d = if p = q ∧ p < st.length then z else st.getD q d := by
  rw [List.getD_eq_getElem?_getD, List.getElem?_set, List.getD_eq_getElem?_getD]
  by_cases e : p = q
  · subst e
    by_cases h : p < st.length
    · simp [h]
    · simp [h]
  · simp [e]
theorem st_len (t : Trn) (st : List Int) : (sIn t (sOut t st)).length = st.length := by
  unfold sIn sOut
  split <;> split <;> simp
theorem st_other {t : Trn} {st : List Int} {a : Nat} (h : a ≠ t.pl) : (sIn t (sOut t st)).getD a 0 = st.getD a 0 := by
  unfold sIn sOut
  have h' : ¬ t.pl = a := fun e => h e.symm
  split <;> split <;> simp only [getD_set', h', false_and, if_false]
theorem st_here {t : Trn} {st : List Int} (hb : t.beg = true) (hl : t.pl < st.length) : 0 ≤ (sIn t (sOut t st)).getD t.pl 0 := by
  unfold sIn
  rw [if_pos hb, getD_set', if_pos ⟨rfl, by unfold sOut; split <;> simp [hl]⟩]
  omega

theorem rest_st {K : Nat} {ps : List (List Stp)} (hf : Fine ps) : ∀ (l : List Nat) (r : Int) (nx : Nat → Nat), endS K (labs ps) l 0 (fun _ => 0) = some (r, nx) →
    (wStT (l.map (turnOfIdx ps)) (List.replicate ps.length (-1))).length = ps.length ∧ ∀ p, p < ps.length → under ps nx p = true → 0 ≤ (wStT (l.map (turnOfIdx ps)) (List.replicate ps.length (-1))).getD p 0 := by
  refine snoc_ind ?_ ?_
  · intro r nx h
    simp [endS] at h
    obtain ⟨_, rfl⟩ := h
    refine ⟨by simp [wStT], fun p hp hu => ?_⟩
    exfalso
    have hq : ps[p]? = some (ps.getD p []) := by rw [List.getD_eq_getElem?_getD, List.getElem?_eq_getElem (by omega)]; rfl
    obtain ⟨x, r, e, hx⟩ := hf _ _ hq
    have : turnAt ps p 0 = some ⟨x, p, 0, begB (x :: r) 0⟩ := by rw [e] at hq; simp only [turnAt, hq]; rfl
    simp [under, this, hx] at hu
  · intro l i ih r nx h
    rw [endS_snoc] at h
    cases he : endS K (labs ps) l 0 (fun _ => 0) with
    | none => rw [he] at h; cases h
    | some st =>
      rw [he] at h
      simp only [Option.bind_some] at h
      obtain ⟨p, q, x, hq, hx, rfl, e⟩ := fit_next hf h
      simp only at e
      subst e
      obtain ⟨i1, i2⟩ := ih st.1 st.2 he
      have hp := getElem?_lt hq
      have hn := getElem?_lt hx
      rw [List.map_append, List.map_cons, List.map_nil, wStT_snoc, turn_pl hq hx, restAfter_at hf hq hn]
      have ht : turnAt ps p (st.2 p) = some ⟨x, p, st.2 p, begB q (st.2 p)⟩ := by simp [turnAt, hq, hx]
      obtain ⟨u1, u2⟩ := under_bump ht
      refine ⟨by rw [st_len]; exact i1, fun a ha hu => ?_⟩
      by_cases e : a = p
      · subst e
        rw [u2] at hu
        exact st_here hu (by rw [i1]; exact ha)
      · rw [st_other e]
        refine i2 a ha ?_
        have hba : bump st.2 p a = st.2 a := by simp [bump, e]
        have hu2 : under ps (bump st.2 p) a = under ps st.2 a := by unfold under; rw [hba]
        rw [← hu2]; exact hu
theorem order_rest {K : Nat} {ps : List (List Stp)} (hf : Fine ps) {o : List Nat} (h : o ∈ allO K (labs ps) (labs ps).length []) {k i : Nat} {y : Lst} (hk : o[k]? = some i) (hy : (labs ps)[i]? = some y) (hr : y.x.rest = true) :
    0 ≤ (wStT ((o.take k).map (turnOfIdx ps)) (List.replicate ps.length (-1))).getD y.pl 0 := by
  have hend := allO_end _ _ o (by rfl) h
  obtain ⟨⟨r1, nx1⟩, he1⟩ := Option.isSome_iff_exists.1 (end_take o hend k)
  have ht2 := end_take o hend (k + 1)
  rw [List.take_add_one, hk, Option.toList_some, endS_snoc, he1] at ht2
  simp only [Option.bind_some] at ht2
  obtain ⟨st, hst⟩ := Option.isSome_iff_exists.1 ht2
  obtain ⟨p, q, x, hq, hx, rfl, _⟩ := fit_next hf hst
  rw [labs_at hq hx] at hy
  cases hy
  simp only at hr ⊢
  refine (rest_st hf _ r1 nx1 he1).2 p (getElem?_lt hq) ?_
  have ht : turnAt ps p (nx1 p) = some ⟨x, p, nx1 p, begB q (nx1 p)⟩ := by simp [turnAt, hq, hx]
  simp [under, ht, hr]

end Hx
end Go.Proofs.YtppcnlkhdgmaiaaDoor
namespace Go.Proofs.YtppcnlkhdgmaiaaDoor
namespace Hx

def st0 (ps : List (List Stp)) : List Int := List.replicate ps.length (-1)
def stAt (ps : List (List Stp)) (l : List Nat) : List Int := wStT (l.map (turnOfIdx ps)) (st0 ps)
theorem stAt_snoc (ps : List (List Stp)) (l : List Nat) (i : Nat) : stAt ps (l ++ [i]) = sIn (turnOfIdx ps i) (sOut (turnOfIdx ps i) (stAt ps l)) := by
  unfold stAt
  rw [List.map_append, List.map_cons, List.map_nil, wStT_snoc]
/-- Where the plates stay: just those are in a place of which a rest is under way, each in its own. -/
structure Plc (ps : List (List Stp)) (nx : Nat → Nat) (st : List Int) : Prop where
  len : st.length = ps.length
  off : ∀ p, p < ps.length → under ps nx p = false → st.getD p 0 = -1
  on : ∀ p, p < ps.length → under ps nx p = true → 0 ≤ st.getD p 0
  ap : ∀ a b, a < ps.length → b < ps.length → a ≠ b → 0 ≤ st.getD a 0 → st.getD a 0 ≠ st.getD b 0
  up : ∀ p, p < ps.length → st.getD p 0 ≤ (ps.length : Int)
theorem contains_at {zs : List Int} {a : Nat} (h : a < zs.length) : zs.contains (zs.getD a 0) = true := by
  rw [List.contains_iff_mem, List.getD_eq_getElem?_getD, List.getElem?_eq_getElem h]
  exact List.getElem_mem h
theorem low_ne {zs : List Int} {a : Nat} (h : a < zs.length) : zs.getD a 0 ≠ (lowF zs : Int) := fun e => by
  have h1 := contains_at h
  rw [e, (lowF_spec zs).2.1] at h1
  cases h1
theorem sOut_len (t : Trn) (st : List Int) : (sOut t st).length = st.length := by unfold sOut; split <;> simp
theorem sOut_other {t : Trn} {st : List Int} {a : Nat} (h : a ≠ t.pl) : (sOut t st).getD a 0 = st.getD a 0 := by
  unfold sOut
  have h' : ¬ t.pl = a := fun e => h e.symm
  split
  · simp only [getD_set', h', false_and, if_false]
  · rfl
theorem sOut_here {t : Trn} {st : List Int} (hl : t.pl < st.length) : (sOut t st).getD t.pl 0 = if t.x.rest then -1 else st.getD t.pl 0 := by
  unfold sOut
  split
  · rw [getD_set', if_pos ⟨rfl, hl⟩]
  · rfl
theorem sIn_here {t : Trn} {st : List Int} (hl : t.pl < st.length) : (sIn t st).getD t.pl 0 = if t.beg then (lowF st : Int) else st.getD t.pl 0 := by
  unfold sIn
  split
  · rw [getD_set', if_pos ⟨rfl, hl⟩]
  · rfl
theorem under_other {ps : List (List Stp)} {nx : Nat → Nat} {p a : Nat} (h : a ≠ p) : under ps (bump nx p) a = under ps nx a := by
  have hba : bump nx p a = nx a := by simp [bump, h]
  unfold under; rw [hba]
theorem Plc.start {ps : List (List Stp)} (hf : Fine ps) : Plc ps (fun _ => 0) (st0 ps) := by
  have hg : ∀ p, p < ps.length → (st0 ps).getD p 0 = -1 := fun p hp => by
    unfold st0
    rw [List.getD_eq_getElem?_getD, List.getElem?_replicate, if_pos hp]; rfl
  refine ⟨by simp [st0], fun p hp _ => hg p hp, fun p hp hu => ?_, (fun a b ha _ _ h => by rw [hg a ha] at h; omega), fun p hp => by rw [hg p hp]; omega⟩
  exfalso
  have hq : ps[p]? = some (ps.getD p []) := by rw [List.getD_eq_getElem?_getD, List.getElem?_eq_getElem hp]; rfl
  obtain ⟨x, r, e, hx⟩ := hf _ _ hq
  have : turnAt ps p 0 = some ⟨x, p, 0, begB (x :: r) 0⟩ := by rw [e] at hq; simp only [turnAt, hq]; rfl
  simp [under, this, hx] at hu
theorem Plc.step {ps : List (List Stp)} {nx : Nat → Nat} {st : List Int} (h : Plc ps nx st) {p : Nat} {t : Trn} (ht : turnAt ps p (nx p) = some t) : Plc ps (bump nx p) (sIn t (sOut t st)) := by
  obtain ⟨q, x, hq, hx, rfl⟩ := turnAt_some ht
  have hp := getElem?_lt hq
  obtain ⟨u1, u2⟩ := under_bump ht
  have hl1 : p < st.length := by rw [h.len]; exact hp
  have hl2 : p < (sOut ⟨x, p, nx p, begB q (nx p)⟩ st).length := by rw [sOut_len]; exact hl1
  have hhere : (sIn ⟨x, p, nx p, begB q (nx p)⟩ (sOut ⟨x, p, nx p, begB q (nx p)⟩ st)).getD p 0 = if begB q (nx p) then (lowF (sOut ⟨x, p, nx p, begB q (nx p)⟩ st) : Int) else -1 := by
    have e1 := sIn_here (t := ⟨x, p, nx p, begB q (nx p)⟩) hl2
    have e2 := sOut_here (t := ⟨x, p, nx p, begB q (nx p)⟩) hl1
    simp only at e1 e2
    rw [e1]
    split
    · rfl
    · rw [e2]
      split
      · rfl
      · rename_i hr
        exact h.off p hp (by rw [u1]; simpa using hr)
  refine ⟨by rw [st_len]; exact h.len, fun a ha hu => ?_, fun a ha hu => ?_, fun a b ha hb hab h0 => ?_, fun a ha => ?_⟩
  · by_cases e : a = p
    · subst e
      rw [u2] at hu
      rw [hhere]
      simp only at hu
      rw [hu]; rfl
    · rw [st_other (t := ⟨x, p, nx p, begB q (nx p)⟩) e]
      exact h.off a ha (by rw [← under_other e]; exact hu)
  · by_cases e : a = p
    · subst e
      rw [u2] at hu
      rw [hhere]
      simp only at hu
      rw [hu, if_pos rfl]; omega
    · rw [st_other (t := ⟨x, p, nx p, begB q (nx p)⟩) e]
      exact h.on a ha (by rw [← under_other e]; exact hu)
  · by_cases e : a = p
    · subst e
      have eb : b ≠ a := fun g => hab g.symm
      rw [hhere] at h0 ⊢
      rw [st_other (t := ⟨x, a, nx a, begB q (nx a)⟩) eb]
      split at h0
      · rename_i hbg
        rw [if_pos hbg]
        have := low_ne (zs := sOut ⟨x, a, nx a, begB q (nx a)⟩ st) (a := b) (by rw [sOut_len, h.len]; exact hb)
        rw [sOut_other (t := ⟨x, a, nx a, begB q (nx a)⟩) eb] at this
        exact fun g => this g.symm
      · omega
    · by_cases e2 : b = p
      · subst e2
        rw [st_other (t := ⟨x, b, nx b, begB q (nx b)⟩) e] at h0 ⊢
        rw [hhere]
        split
        · have := low_ne (zs := sOut ⟨x, b, nx b, begB q (nx b)⟩ st) (a := a) (by rw [sOut_len, h.len]; exact ha)
          rw [sOut_other (t := ⟨x, b, nx b, begB q (nx b)⟩) e] at this
          exact this
        · omega
      · rw [st_other (t := ⟨x, p, nx p, begB q (nx p)⟩) e] at h0 ⊢
        rw [st_other (t := ⟨x, p, nx p, begB q (nx p)⟩) e2]
        exact h.ap a b ha hb hab h0
  · by_cases e : a = p
    · subst e
      rw [hhere]
      split
      · have := (lowF_spec (sOut ⟨x, a, nx a, begB q (nx a)⟩ st)).2.2
        rw [sOut_len, h.len] at this
        omega
      · omega
    · rw [st_other (t := ⟨x, p, nx p, begB q (nx p)⟩) e]
      exact h.up a ha
theorem Plc.of_end {K : Nat} {ps : List (List Stp)} (hf : Fine ps) : ∀ (l : List Nat) (r : Int) (nx : Nat → Nat), endS K (labs ps) l 0 (fun _ => 0) = some (r, nx) → Plc ps nx (stAt ps l) := by
  refine snoc_ind ?_ ?_
  · intro r nx h
    simp [endS] at h
    obtain ⟨_, rfl⟩ := h
    exact Plc.start hf
  · intro l i ih r nx h
    rw [endS_snoc] at h
    cases he : endS K (labs ps) l 0 (fun _ => 0) with
    | none => rw [he] at h; cases h
    | some st =>
      rw [he] at h
      simp only [Option.bind_some] at h
      obtain ⟨p, q, x, hq, hx, rfl, e⟩ := fit_next hf h
      simp only at e
      subst e
      have hn := getElem?_lt hx
      rw [stAt_snoc, turn_pl hq hx, restAfter_at hf hq hn]
      exact (ih st.1 st.2 he).step (by simp [turnAt, hq, hx])

/-! ### How many places are taken. -/
theorem contains_filter (zs : List Int) (k : Nat) : zs.contains (k : Int) = (zs.filter (fun z => decide (0 ≤ z))).contains (k : Int) := by
  rw [Bool.eq_iff_iff, List.contains_iff_mem, List.contains_iff_mem, List.mem_filter]
  constructor
  · intro h; exact ⟨h, by simp⟩
  · intro h; exact h.1
theorem low_count (zs : List Int) : lowF zs ≤ (zs.filter (fun z => decide (0 ≤ z))).length := by
  have h := inN_le (zs.filter (fun z => decide (0 ≤ z))) (lowF zs)
  rw [List.filter_eq_self.2 (fun k hk => by rw [← contains_filter]; exact (lowF_spec zs).1 k (List.mem_range.1 hk)), List.length_range] at h
  exact h
theorem count_sum (p : Int → Bool) : ∀ (zs : List Int), ((zs.filter p).length : Int) = sumR (fun i => if p (zs.getD i 0) then 1 else 0) zs.length := by
  refine snoc_ind rfl ?_
  intro l z ih
  rw [List.filter_append, List.length_append, List.length_append]
  show _ = sumR _ (l.length + 1)
  have e1 : sumR (fun i => if p ((l ++ [z]).getD i 0) then (1 : Int) else 0) (l.length + 1) = sumR (fun i => if p ((l ++ [z]).getD i 0) then (1 : Int) else 0) l.length + (if p ((l ++ [z]).getD l.length 0) then 1 else 0) := rfl
  have e2 : sumR (fun i => if p ((l ++ [z]).getD i 0) then (1 : Int) else 0) l.length = sumR (fun i => if p (l.getD i 0) then (1 : Int) else 0) l.length := sumR_same _ (fun i hi => by
    show (if p ((l ++ [z]).getD i 0) then (1 : Int) else 0) = if p (l.getD i 0) then 1 else 0
    rw [List.getD_eq_getElem?_getD, List.getElem?_append_left hi, ← List.getD_eq_getElem?_getD])
  have e3 : (l ++ [z]).getD l.length 0 = z := by
    rw [List.getD_eq_getElem?_getD, List.getElem?_append_right (Nat.le_refl _), Nat.sub_self]; rfl
  rw [e1, e2, e3, ← ih]
  cases hp : p z <;> simp [hp]
/-- A rest that begins finds a place below K. -/
theorem low_places {K : Nat} {ps : List (List Stp)} {l : List Nat} {r : Int} {nx : Nat → Nat} (hs : Sofar K ps l r nx) {st : List Int} (h : Plc ps nx st) {p : Nat} {t : Trn} (ht : turnAt ps p (nx p) = some t) (hk : r + moreR t ≤ (K : Int)) (hb : t.beg = true) : lowF (sOut t st) < K := by
  obtain ⟨q, x, hq, hx, rfl⟩ := turnAt_some ht
  have hp := getElem?_lt hq
  obtain ⟨u1, u2⟩ := under_bump ht
  have hl1 : p < st.length := by rw [h.len]; exact hp
  have h1 := low_count (sOut ⟨x, p, nx p, begB q (nx p)⟩ st)
  have h2 := count_sum (fun z => decide (0 ≤ z)) (sOut ⟨x, p, nx p, begB q (nx p)⟩ st)
  rw [sOut_len, h.len] at h2
  have h3 : sumR (fun i => if decide (0 ≤ (sOut ⟨x, p, nx p, begB q (nx p)⟩ st).getD i 0) = true then (1 : Int) else 0) ps.length ≤ r - (if x.rest then 1 else 0) := by
    have e := sumR_upd (f := fun i => if under ps nx i then (1 : Int) else 0) (g := fun i => if i = p then 0 else if under ps nx i then (1 : Int) else 0) p ps.length hp (fun i _ hi => by simp [hi])
    rw [hs.rst] at e
    simp only [if_true, u1] at e
    have e' : sumR (fun i => if i = p then 0 else if under ps nx i then (1 : Int) else 0) ps.length = r - (if x.rest then 1 else 0) := by rw [e]; omega
    rw [← e']
    refine sumR_le _ (fun i hi => ?_)
    show (if decide (0 ≤ (sOut ⟨x, p, nx p, begB q (nx p)⟩ st).getD i 0) = true then (1 : Int) else 0) ≤ if i = p then 0 else if under ps nx i then (1 : Int) else 0
    by_cases e2 : i = p
    · subst e2
      rw [if_pos rfl]
      have e3 := sOut_here (t := ⟨x, i, nx i, begB q (nx i)⟩) hl1
      simp only at e3
      rw [e3]
      have : ¬ 0 ≤ (if x.rest then (-1 : Int) else st.getD i 0) := by
        split
        · omega
        · rename_i hr
          rw [h.off i hi (by rw [u1]; simpa using hr)]; omega
      rw [if_neg (by rw [decide_eq_true_eq]; exact this)]
      exact Int.le_refl _
    · rw [if_neg e2, sOut_other (t := ⟨x, p, nx p, begB q (nx p)⟩) e2]
      cases hu : under ps nx i
      · have := h.off i hi hu
        rw [if_neg (by rw [decide_eq_true_eq, this]; omega)]
        simp
      · simp; split <;> omega
  simp only [moreR] at hk
  simp only at hb
  rw [hb] at hk
  simp only [if_true] at hk
  omega
end Hx
end Go.Proofs.YtppcnlkhdgmaiaaDoor
namespace Go.Proofs.YtppcnlkhdgmaiaaDoor
namespace Hx

theorem tabOf_at : ∀ (X : List (Trn × Int)) (st : List Int) (k : Nat), (tabOf X st)[k]? = (X[k]?).map fun p => tStp p.1 p.2 (wSt (X.take k) st)
  | [], _, k => by simp [tabOf]
  | (t, T) :: X, st, 0 => by simp [tabOf, wSt]
  | (t, T) :: X, st, k + 1 => by
    show (tabOf X (sIn t (sOut t st)))[k]? = _
    rw [tabOf_at X _ k]
    rfl
theorem tabOf_len : ∀ (X : List (Trn × Int)) (st : List Int), (tabOf X st).length = X.length
  | [], _ => rfl
  | (_, _) :: X, _ => by
    show (tabOf X _).length + 1 = X.length + 1
    rw [tabOf_len X]
theorem wAll_of : ∀ (X : List (Trn × Int)) (st : List Int), (∀ k p, X[k]? = some p → WOk p.1 p.2 (wSt (X.take k) st)) → WAll X st
  | [], _, _ => trivial
  | (t, T) :: X, _, h => ⟨h 0 (t, T) rfl, wAll_of X _ (fun k p hk => h (k + 1) p hk)⟩
theorem tabOf_snoc (X : List (Trn × Int)) (t : Trn) (T : Int) (st : List Int) : tabOf (X ++ [(t, T)]) st = tabOf X st ++ [tStp t T (wSt X st)] := by
  induction X generalizing st with
  | nil => rfl
  | cons a X ih =>
    obtain ⟨t', T'⟩ := a
    show tStp t' T' st :: tabOf (X ++ [(t, T)]) _ = tStp t' T' st :: (tabOf X _ ++ [_])
    rw [ih]
    rfl

/-- The timetable of an order. -/
def ttab (ps : List (List Stp)) (o : List Nat) (f : Nat → Int) : List TStp := tabOf (pairs (o.map (turnOfIdx ps)) f) (st0 ps)
theorem ttab_len (ps : List (List Stp)) (o : List Nat) (f : Nat → Int) : (ttab ps o f).length = o.length := by
  unfold ttab; rw [tabOf_len, pairs_len, List.length_map]
theorem pairs_take (l : List Trn) (f : Nat → Int) (k : Nat) : ((pairs l f).take k).map (·.1) = l.take k := by
  apply List.ext_getElem?
  intro i
  rw [List.getElem?_map, List.getElem?_take, List.getElem?_take]
  split
  · unfold pairs
    rw [List.getElem?_mapIdx]
    cases l[i]? <;> rfl
  · rfl
/-- What is known of a step of an order, where it stands. -/
structure AtK (K : Nat) (ps : List (List Stp)) (o : List Nat) (k : Nat) (r : Int) (nx : Nat → Nat) (p : Nat) (q : List Stp) (x : Stp) : Prop where
  e : endS K (labs ps) (o.take k) 0 (fun _ => 0) = some (r, nx)
  hq : ps[p]? = some q
  hx : q[nx p]? = some x
  i : o[k]? = some (offP ps p + nx p)
  trn : turnOfIdx ps (offP ps p + nx p) = ⟨x, p, nx p, begB q (nx p)⟩
  tat : turnAt ps p (nx p) = some ⟨x, p, nx p, begB q (nx p)⟩
  rk : r + moreR ⟨x, p, nx p, begB q (nx p)⟩ ≤ (K : Int)
  so : Sofar K ps (o.take k) r nx
  plc : Plc ps nx (stAt ps (o.take k))
theorem at_k {K : Nat} {ps : List (List Stp)} (hf : Fine ps) {o : List Nat} (h : (endS K (labs ps) o 0 (fun _ => 0)).isSome = true) {k : Nat} (hk : k < o.length) : ∃ r nx p q x, AtK K ps o k r nx p q x := by
  obtain ⟨⟨r, nx⟩, he⟩ := Option.isSome_iff_exists.1 (end_take o h k)
  have h2 := end_take o h (k + 1)
  have hi : o[k]? = some o[k] := List.getElem?_eq_getElem hk
  rw [List.take_add_one, hi, Option.toList_some, endS_snoc, he] at h2
  simp only [Option.bind_some] at h2
  obtain ⟨st, hst⟩ := Option.isSome_iff_exists.1 h2
  obtain ⟨p, q, x, hq, hx, e, _⟩ := fit_next hf hst
  have hn := getElem?_lt hx
  have hs := Sofar.of_end hf (o.take k) [] 0 (fun _ => 0) r nx (Sofar.start K hf) he
  refine ⟨r, nx, p, q, x, he, hq, hx, by rw [hi, e], by rw [turn_pl hq hx, restAfter_at hf hq hn], by simp [turnAt, hq, hx], ?_, hs, Plc.of_end hf _ _ _ he⟩
  rw [e, fitStep_at hf hq hx] at hst
  simp only [if_true] at hst
  split at hst
  · rename_i g; exact g
  · cases hst
/-- What is known of an order that has times and is in time. -/
structure Tm (J K D : Nat) (ps : List (List Stp)) (o : List Nat) (f : Nat → Int) : Prop where
  good : GoodP J K D ps
  mem : o ∈ allO K (labs ps) (labs ps).length []
  early : earlyF J (o.map (turnOfIdx ps)) = some f
  time : endT J (o.map (turnOfIdx ps)) f ≤ (D : Int)
theorem Tm.len {J K D ps o f} (h : Tm J K D ps o f) : o.length = (labs ps).length := (order_is h.good.fine h.mem).len
theorem Tm.ends {J K D ps o f} (h : Tm J K D ps o f) : (endS K (labs ps) o 0 (fun _ => 0)).isSome = true := allO_end _ _ o (by rfl) h.mem
theorem Tm.at {J K D ps o f} (h : Tm J K D ps o f) {k : Nat} (hk : k < o.length) : ∃ r nx p q x, AtK K ps o k r nx p q x := at_k h.good.fine h.ends hk
theorem AtK.trnk {K ps o k r nx p q x} (h : AtK K ps o k r nx p q x) : (o.map (turnOfIdx ps))[k]? = some ⟨x, p, nx p, begB q (nx p)⟩ := by
  rw [List.getElem?_map, h.i, Option.map_some, h.trn]
theorem AtK.row {K ps o k r nx p q x} (h : AtK K ps o k r nx p q x) (f : Nat → Int) : (ttab ps o f)[k]? = some (tStp ⟨x, p, nx p, begB q (nx p)⟩ (f k) (stAt ps (o.take k))) := by
  unfold ttab
  rw [tabOf_at, pairs_at h.trnk, Option.map_some, wSt_T, pairs_take]
  unfold stAt
  rw [List.map_take]
theorem Tm.f0 {J K D ps o f} (h : Tm J K D ps o f) {k : Nat} (hk : k < o.length) : 0 ≤ f k ∧ f k ≤ (D : Int) := by
  have hl := early_least h.early
  have hm := early_mono h.early (o.length - 1 - k) k (by rw [List.length_map]; omega)
  have ht := h.time
  refine ⟨hl.1.1 k (by rw [List.length_map]; exact hk), ?_⟩
  obtain ⟨r, nx, p, q, x, ha⟩ := h.at (k := o.length - 1) (by omega)
  unfold endT at ht
  rw [List.length_map, ha.trnk] at ht
  simp only at ht
  rw [show k + (o.length - 1 - k) = o.length - 1 by omega] at hm
  omega
theorem good_len {J K D : Nat} {ps : List (List Stp)} (h : GoodP J K D ps) {p n : Nat} {q : List Stp} {x : Stp} (hq : ps[p]? = some q) (hx : q[n]? = some x) :
    p < 4 ∧ n < 5 ∧ x.lo < 1000 ∧ x.hi < 1000 ∧ x.mn < 1000 ∧ x.mx < 1000 ∧ 1 ≤ x.lo ∧ x.lo ≤ x.hi ∧ (x.rest = true → x.mn ≤ x.mx) := by
  have h1 := getElem?_lt hq
  have h2 := getElem?_lt hx
  have h3 := h.le
  have h4 := h.five q (List.mem_of_getElem? hq)
  obtain ⟨a, b, c, d⟩ := h.small q (List.mem_of_getElem? hq) x (List.mem_of_getElem? hx)
  obtain ⟨e, g, i⟩ := h.right q (List.mem_of_getElem? hq) x (List.mem_of_getElem? hx)
  exact ⟨by omega, by omega, a, b, c, d, e, g, fun hr => (i hr).2⟩
theorem Tm.wok {J K D ps o f} (h : Tm J K D ps o f) {k : Nat} {r nx p q x} (hk : k < o.length) (ha : AtK K ps o k r nx p q x) : WOk ⟨x, p, nx p, begB q (nx p)⟩ (f k) (stAt ps (o.take k)) := by
  obtain ⟨a1, a2, a3, a4, a5, a6, a7, a8, a9⟩ := good_len h.good ha.hq ha.hx
  obtain ⟨b1, b2⟩ := h.f0 hk
  have hD := h.good.d
  have hp := getElem?_lt ha.hq
  have h4 := h.good.le
  obtain ⟨u1, _⟩ := under_bump ha.tat
  refine ⟨a1, by show nx p < 10; omega, a3, a4, a5, a6, b1, by omega, fun hr => ⟨ha.plc.on p hp (by rw [u1]; exact hr), ?_⟩, ?_⟩
  · have := ha.plc.up p hp
    show (stAt ps (o.take k)).getD p 0 ≤ 9
    omega
  · have := (lowF_spec (sOut ⟨x, p, nx p, begB q (nx p)⟩ (stAt ps (o.take k)))).2.2
    rw [sOut_len, ha.plc.len] at this
    omega
theorem Tm.wall {J K D ps o f} (h : Tm J K D ps o f) : WAll (pairs (o.map (turnOfIdx ps)) f) (st0 ps) := by
  refine wAll_of _ _ (fun k p hk => ?_)
  have hlt : k < o.length := by
    have := getElem?_lt hk
    rw [pairs_len, List.length_map] at this
    exact this
  obtain ⟨r, nx, pl, q, x, ha⟩ := h.at hlt
  rw [pairs_at ha.trnk] at hk
  cases hk
  rw [wSt_T, pairs_take, ← List.map_take]
  exact h.wok hlt ha
theorem tstp_ok {t : Trn} {T : Int} {st : List Int} (h : WOk t T st) : TOk (tStp t T st) := by
  refine ⟨h.pl, h.no, h.lo, h.hi, ?_, ?_, ?_, fun hr => ?_, fun hr => ?_, ?_, ?_⟩
  · show (if t.x.rest then t.x.mn else 0) < 1000
    split
    · exact h.mn
    · omega
  · show (if t.x.rest then t.x.mx else 0) < 1000
    split
    · exact h.mx
    · omega
  · show T.toNat < 100000
    have := h.t0
    have := h.t1
    omega
  · have hr : t.x.rest = false := hr
    show (if t.x.rest then t.x.mn else 0) = 0 ∧ (if t.x.rest then t.x.mx else 0) = 0 ∧ (if t.x.rest then st.getD t.pl 0 else -1) = -1
    rw [hr]; simp
  · have hr : t.x.rest = true := hr
    show 0 ≤ (if t.x.rest then st.getD t.pl 0 else -1) ∧ (if t.x.rest then st.getD t.pl 0 else -1) ≤ 9
    rw [hr]; exact h.out hr
  · show -1 ≤ (if t.beg then (lowF (sOut t st) : Int) else -1)
    split <;> omega
  · show (if t.beg then (lowF (sOut t st) : Int) else -1) ≤ 9
    have := h.low
    split <;> omega
/-- What a table keeps of a plate is what the order keeps. -/
theorem Tm.hold {J K D ps o f} (h : Tm J K D ps o f) : ∀ k, k ≤ o.length → ∀ r nx, endS K (labs ps) (o.take k) 0 (fun _ => 0) = some (r, nx) → ∀ a, holdF ((ttab ps o f).take k) a = (if a < ps.length then (stAt ps (o.take k)).getD a 0 else -1, nx a)
  | 0, _, r, nx, he, a => by
    simp [endS] at he
    obtain ⟨_, rfl⟩ := he
    rw [List.take_zero, List.take_zero]
    show ((-1 : Int), 0) = _
    by_cases ha : a < ps.length
    · rw [if_pos ha]
      have : (stAt ps []).getD a 0 = -1 := by
        show (st0 ps).getD a 0 = -1
        unfold st0
        rw [List.getD_eq_getElem?_getD, List.getElem?_replicate, if_pos ha]; rfl
      rw [this]
    · rw [if_neg ha]
  | k + 1, hk, r', nx', he, a => by
    obtain ⟨r, nx, p, q, x, hat⟩ := h.at (k := k) (by omega)
    have ih := h.hold k (by omega) r nx hat.e a
    have hp := getElem?_lt hat.hq
    have hn := getElem?_lt hat.hx
    have e1 : o.take (k + 1) = o.take k ++ [offP ps p + nx p] := by rw [List.take_add_one, hat.i]; rfl
    have e2 : (ttab ps o f).take (k + 1) = (ttab ps o f).take k ++ [tStp ⟨x, p, nx p, begB q (nx p)⟩ (f k) (stAt ps (o.take k))] := by rw [List.take_add_one, hat.row f]; rfl
    rw [e1, endS_snoc, hat.e] at he
    simp only [Option.bind_some] at he
    rw [fitStep_at h.good.fine hat.hq hat.hx, if_pos rfl, if_pos hat.rk] at he
    cases he
    rw [e1, e2, holdF_snoc, stAt_snoc, hat.trn, ih]
    have hl1 : p < (stAt ps (o.take k)).length := by rw [hat.plc.len]; exact hp
    have hl2 : p < (sOut ⟨x, p, nx p, begB q (nx p)⟩ (stAt ps (o.take k))).length := by rw [sOut_len]; exact hl1
    by_cases ea : a = p
    · subst ea
      have hpl : (tStp ⟨x, a, nx a, begB q (nx a)⟩ (f k) (stAt ps (o.take k))).pl = a := rfl
      rw [if_pos hpl, if_pos hp]
      have e3 := sIn_here (t := ⟨x, a, nx a, begB q (nx a)⟩) hl2
      have e4 := sOut_here (t := ⟨x, a, nx a, begB q (nx a)⟩) hl1
      simp only at e3 e4
      rw [e3, e4]
      obtain ⟨u1, _⟩ := under_bump hat.tat
      have hb : bump nx a a = nx a + 1 := by simp [bump]
      rw [hb]
      show ((if begB q (nx a) then (lowF (sOut ⟨x, a, nx a, begB q (nx a)⟩ (stAt ps (o.take k))) : Int) else -1), nx a + 1) = _
      congr 1
      split
      · rfl
      · split
        · rfl
        · rename_i hr
          exact (hat.plc.off a hp (by rw [u1]; simpa using hr)).symm
    · have hpl : ¬ (tStp ⟨x, p, nx p, begB q (nx p)⟩ (f k) (stAt ps (o.take k))).pl = a := fun g => ea g.symm
      rw [if_neg hpl, st_other (t := ⟨x, p, nx p, begB q (nx p)⟩) ea]
      have hb : bump nx p a = nx a := by simp [bump, ea]
      rw [hb]
/-- What Plan tells is a right table. -/
theorem Tm.right {J K D ps o f} (h : Tm J K D ps o f) : Right (ttab ps o f) := by
  refine ⟨fun y hy => ?_, fun k hk => ?_⟩
  · obtain ⟨k, hk⟩ := List.getElem?_of_mem hy
    have hlt : k < o.length := by have := getElem?_lt hk; rw [ttab_len] at this; exact this
    obtain ⟨r, nx, p, q, x, hat⟩ := h.at hlt
    rw [hat.row f] at hk
    cases hk
    exact tstp_ok (h.wok hlt hat)
  · rw [ttab_len] at hk
    obtain ⟨r, nx, p, q, x, hat⟩ := h.at hk
    obtain ⟨a1, a2, a3, a4, a5, a6, a7, a8, a9⟩ := good_len h.good hat.hq hat.hx
    have hp := getElem?_lt hat.hq
    have hh := h.hold k (by omega) r nx hat.e
    obtain ⟨u1, _⟩ := under_bump hat.tat
    have hl1 : p < (stAt ps (o.take k)).length := by rw [hat.plc.len]; exact hp
    unfold rightF
    rw [hat.row f]
    simp only [Bool.and_eq_true]
    refine ⟨?_, ?_⟩
    · unfold ownRight
      have e1 : (tStp ⟨x, p, nx p, begB q (nx p)⟩ (f k) (stAt ps (o.take k))).pl = p := rfl
      rw [e1, hh p, if_pos hp]
      have e2 : ((if x.rest then x.mx else 0) < (if x.rest then x.mn else 0)) ↔ False := by
        cases hr : x.rest
        · simp
        · have := a9 hr; simp; omega
      have e3 : (if x.rest then (stAt ps (o.take k)).getD p 0 else -1) = (stAt ps (o.take k)).getD p 0 := by
        cases hr : x.rest
        · simp; exact (hat.plc.off p hp (by rw [u1]; exact hr)).symm
        · simp
      have e4 : x.lo ≠ 0 := by omega
      have e5 : ¬ x.hi < x.lo := by omega
      have e6 : ¬ ((if x.rest then x.mx else 0) < (if x.rest then x.mn else 0)) := fun g => e2.1 g
      show ((nx p == nx p && !(x.lo == 0) && !decide (x.hi < x.lo) && !decide ((if x.rest then x.mx else 0) < (if x.rest then x.mn else 0)) && (if x.rest then (stAt ps (o.take k)).getD p 0 else -1) == (stAt ps (o.take k)).getD p 0) = true)
      rw [e3, decide_eq_false e5, decide_eq_false e6]
      simp [e4]
    · rw [List.all_eq_true]
      intro a ha
      unfold clash
      have e1 : (tStp ⟨x, p, nx p, begB q (nx p)⟩ (f k) (stAt ps (o.take k))).pl = p := rfl
      rw [e1, hh a]
      have e7 : (tStp ⟨x, p, nx p, begB q (nx p)⟩ (f k) (stAt ps (o.take k))).inn = (if begB q (nx p) then (lowF (sOut ⟨x, p, nx p, begB q (nx p)⟩ (stAt ps (o.take k))) : Int) else -1) := rfl
      rw [e7]
      by_cases ea : a = p
      · simp [ea]
      · cases hb : begB q (nx p)
        · simp
        · simp only [if_true]
          by_cases hn : a < ps.length
          · rw [if_pos hn]
            have := low_ne (zs := sOut ⟨x, p, nx p, begB q (nx p)⟩ (stAt ps (o.take k))) (a := a) (by rw [sOut_len, hat.plc.len]; exact hn)
            rw [sOut_other (t := ⟨x, p, nx p, begB q (nx p)⟩) ea, hb] at this
            rw [beq_eq_false_iff_ne.2 this]
            simp
          · rw [if_neg hn]
            have : ¬ (-1 : Int) = (lowF (sOut ⟨x, p, nx p, true⟩ (stAt ps (o.take k))) : Int) := by omega
            simp [this]
end Hx
end Go.Proofs.YtppcnlkhdgmaiaaDoor
namespace Go.Proofs.YtppcnlkhdgmaiaaDoor
namespace Hx

theorem nD {n k : Nat} (h : n < 10 ^ (k + 1)) : (Lib.itoa (n : Int)).length ≤ k + 1 := by rw [itoa_len]; exact nDigits_le h
theorem step_len {t : Trn} {T : Int} {st : List Int} (h : WOk t T st) (hT : T < 10000) : (wHead t T ++ wOut t st ++ wIn t (sOut t st)).length ≤ 28 := by
  obtain ⟨z, hz⟩ : ∃ z : Nat, T = (z : Int) := ⟨T.toNat, by have := h.t0; omega⟩
  have a1 := nD (n := z) (k := 3) (by omega)
  have a2 := nD (n := t.x.lo) (k := 2) h.lo
  have a3 := nD (n := t.x.hi) (k := 2) h.hi
  have a4 := nD (n := t.x.mn) (k := 2) h.mn
  have a5 := nD (n := t.x.mx) (k := 2) h.mx
  have a6 := nD (n := lowF (sOut t st)) (k := 0) (by have := h.low; omega)
  have b1 : (wHead t T).length ≤ 16 := by
    rw [hz]
    simp [wHead, bndB, nameB]
    omega
  have b2 : (wOut t st).length ≤ 10 := by
    unfold wOut
    split
    · rename_i hr
      obtain ⟨o1, o2⟩ := h.out hr
      obtain ⟨y, hy⟩ : ∃ y : Nat, st.getD t.pl 0 = (y : Int) := ⟨(st.getD t.pl 0).toNat, by omega⟩
      have a7 := nD (n := y) (k := 0) (by omega)
      rw [hy]
      simp [bndB]
      omega
    · simp
  have b3 : (wIn t (sOut t st)).length ≤ 2 := by
    unfold wIn
    split
    · simp
      omega
    · simp
  rw [List.length_append, List.length_append]
  omega
theorem wAll_len : ∀ (l : List (Trn × Int)) (st : List Int), WAll l st → (∀ p ∈ l, p.2 < 10000) → (wAll l st).length ≤ 28 * l.length
  | [], _, _, _ => by simp [wAll]
  | (t, T) :: l, st, hw, ht => by
    have h1 := step_len hw.1 (ht (t, T) (by simp))
    have h2 := wAll_len l _ hw.2 (fun p hp => ht p (by simp [hp]))
    rw [wAll, List.length_append, List.length_cons]
    omega
/-- What is known of a timetable that Plan has told. -/
structure Told (J K D : Nat) (ps : List (List Stp)) (u : List UInt8) (e : Int) (o : List Nat) (f : Nat → Int) : Prop where
  tm : Tm J K D ps o f
  is : u = writeF J ps.length (pairs (o.map (turnOfIdx ps)) f)
  en : e = endT J (o.map (turnOfIdx ps)) f
theorem Told.size {J K D ps u e o f} (h : Told J K D ps u e o f) : (⟨u.toArray⟩ : ByteArray).size ≤ 400 := by
  show u.length ≤ 400
  have h1 := wAll_len _ _ h.tm.wall (fun p hp => by
    obtain ⟨i, hi, _, e2⟩ := pairs_mem hp
    rw [List.length_map] at hi
    have := (h.tm.f0 hi).2
    have := h.tm.good.d
    rw [e2]
    omega)
  rw [pairs_len, List.length_map, h.tm.len] at h1
  have h2 := h.tm.good.all
  have h3 := nD (n := J) (k := 0) (by have := h.tm.good.j; omega)
  rw [h.is]
  unfold writeF
  simp only [List.length_append, List.length_cons, List.length_nil]
  have : (wAll (pairs (o.map (turnOfIdx ps)) f) (List.replicate ps.length (-1))).length ≤ 28 * (labs ps).length := h1
  omega
theorem Told.read {J K D ps u e o f} (h : Told J K D ps u e o f) : (theadF ⟨u.toArray⟩).1 = J ∧ (tableF ⟨u.toArray⟩).1.bad = false ∧ (tableF ⟨u.toArray⟩).2 = ttab ps o f :=
  write_read h.tm.good.j h.tm.wall (by rw [h.is])
theorem wrongF_right {l : List TStp} (h : Right l) : ∀ n k, l.length - k = n → wrongF l k = (0, 0)
  | 0, k, hk => wrongF_end (by omega)
  | n + 1, k, hk => by
    rw [wrongF_step (by omega), if_pos (h.right k (by omega))]
    exact wrongF_right h n (k + 1) (by omega)
theorem Told.look {J K D ps u e o f} (h : Told J K D ps u e o f) : lookF ⟨u.toArray⟩ = (0, 0) := by
  obtain ⟨_, h2, h3⟩ := h.read
  unfold lookF
  rw [if_neg (by have := h.size; omega), if_neg (by rw [h2]; simp), h3]
  exact wrongF_right h.tm.right _ 0 rfl
theorem Told.scan {J K D ps u e o f} (h : Told J K D ps u e o f) : (scHead ⟨u.toArray⟩).1 = J ∧ (scAll ⟨u.toArray⟩).1.bad = false ∧ (scAll ⟨u.toArray⟩).2 = (ttab ps o f).map entOf := by
  obtain ⟨h1, h2, h3⟩ := h.read
  obtain ⟨e1, e2⟩ := table_sc h2
  refine ⟨by rw [e1]; exact h1, by rw [e2]; exact h2, by rw [e2, h3]⟩
theorem ents_small {l : List TStp} (hr : ∀ y ∈ l, TOk y) : EntS (l.map entOf) := by
  intro x hx
  obtain ⟨z, hz, rfl⟩ := List.mem_map.1 hx
  have o := hr z hz
  have o1 := o.pl
  have o2 := o.no
  have o3 := o.t
  have o4 := o.lo
  have o5 := o.hi
  have o6 := o.mn
  have o7 := o.mx
  have o8 := o.inn0
  have o9 := o.inn1
  have o10 : -1 ≤ z.out ∧ z.out ≤ 9 := by
    cases hrest : z.rest
    · have := (o.norest hrest).2.2; omega
    · have := o.rest hrest; omega
  show z.pl < 1000 ∧ z.no < 1000000000 ∧ z.t < 1000000000 ∧ z.lo < 1000000000 ∧ z.hi < 1000000000 ∧ z.mn < 1000000000 ∧ z.mx < 1000000000 ∧ -1 ≤ z.out ∧ z.out < 1000000000 ∧ -1 ≤ z.inn ∧ z.inn < 1000000000
  omega
theorem labs_some {J K D : Nat} {ps : List (List Stp)} (h : GoodP J K D ps) : 0 < (labs ps).length := by
  have hp := h.pos
  have hq : ps[0]? = some ps[0] := List.getElem?_eq_getElem hp
  obtain ⟨x, r, e, _⟩ := h.fine 0 _ hq
  rw [labs_len]
  cases ps with
  | nil => simp at hp
  | cons q ps =>
    simp at e
    rw [e]; simp
theorem Told.over {J K D ps u e o f} (h : Told J K D ps u e o f) : overF ((ttab ps o f).map entOf) J = e := by
  have hpos := labs_some h.tm.good
  rw [← h.tm.len] at hpos
  obtain ⟨r, nx, p, q, x, ha⟩ := h.tm.at (k := o.length - 1) (by omega)
  have hrow := ha.row f
  have hl : ((ttab ps o f).map entOf).getLast? = some (entOf (tStp ⟨x, p, nx p, begB q (nx p)⟩ (f (o.length - 1)) (stAt ps (o.take (o.length - 1))))) := by
    rw [List.getLast?_eq_getElem?, List.length_map, ttab_len, List.getElem?_map, hrow]; rfl
  have h0 := (h.tm.f0 (k := o.length - 1) (by omega)).1
  unfold overF
  rw [hl, h.en]
  unfold endT
  rw [List.length_map, ha.trnk]
  show ((f (o.length - 1)).toNat : Int) + (J : Int) + (x.hi : Int) = f (o.length - 1) + (J : Int) + (x.hi : Int)
  omega

/-! ### More orders lose nothing. -/
theorem better_le (J D : Nat) (ps : List (List Stp)) : ∀ (os : List (List Nat)) (b : Bst), ∃ b', os.foldl (betterF J D ps) (some b) = some b' ∧ b'.e ≤ b.e
  | [], b => ⟨b, rfl, Int.le_refl _⟩
  | o :: os, b => by
    rw [List.foldl_cons]
    unfold betterF
    cases hc : candF J D ps o with
    | none => exact better_le J D ps os b
    | some c =>
      obtain ⟨f, e⟩ := c
      simp only
      split
      · rename_i hlt
        obtain ⟨b', h1, h2⟩ := better_le J D ps os ⟨o, f, e⟩
        exact ⟨b', h1, Int.le_trans h2 (Int.le_of_lt hlt)⟩
      · exact better_le J D ps os b
theorem best_more {J D : Nat} {ps : List (List Stp)} {A B : List (List Nat)} {b : Bst} (h : bestF J D ps A = some b) : ∃ b', bestF J D ps (A ++ B) = some b' ∧ b'.e ≤ b.e := by
  unfold bestF at h ⊢
  rw [List.foldl_append, h]
  exact better_le J D ps B b
theorem take_more' {α : Type} (l : List α) {a b : Nat} (h : a ≤ b) : ∃ B, l.take b = l.take a ++ B := by
  refine ⟨(l.take b).drop a, ?_⟩
  have : (l.take b).take a = l.take a := by rw [List.take_take, Nat.min_eq_left h]
  rw [← this]
  exact (List.take_append_drop a _).symm
/-- The best of the orders that are gone through. -/
theorem told_of {J K D : Nat} {ps : List (List Stp)} (hg : GoodP J K D ps) {N : Nat} {b : Bst} (h : bestF J D ps (((ordersF K ps).take N).map (·.1)) = some b) :
    Told J K D ps (writeF J ps.length (pairs (b.o.map (turnOfIdx ps)) b.f)) b.e b.o b.f := by
  obtain ⟨h1, h2⟩ := bestF_mem J D ps _ b h
  obtain ⟨h3, h4, h5⟩ := candF_early h2
  rw [ordersF_fst] at h1
  exact ⟨⟨hg, List.mem_of_mem_take h1, h3, by rw [← h4]; exact h5⟩, rfl, h4⟩
theorem GoodS.good {ps : List (List Stp)} (h : GoodS ps) {J K D : Nat} (hJ : J < 10) (hK : 1 ≤ K) (hK2 : K < 10) (hD : D < 10000) : GoodP J K D ps := by
  refine ⟨fun p q hq => h.head q (List.mem_of_getElem? hq), fun q hq x hx => ?_, fun q hq x hx => ?_, List.length_pos_iff.2 h.pos, h.four, h.five, h.nine, hJ, hK2, hD⟩
  · have := h.stp q hq x hx
    omega
  · have := h.stp q hq x hx
    exact ⟨by omega, by omega, fun _ => ⟨hK, by omega⟩⟩
theorem GoodS.np {ps : List (List Stp)} (h : GoodS ps) : ∀ q ∈ ps, NP q := fun q hq => ⟨h.head q hq, fun x hx => by
  obtain ⟨a, b, c, d, e, f, g, i⟩ := h.stp q hq x hx
  exact ⟨by omega, by omega, by omega, by omega, i⟩⟩
theorem GoodS.ks {ps : List (List Stp)} (h : GoodS ps) : ∀ y ∈ labs ps, KS y := fun y hy => by
  obtain ⟨i, hi⟩ := List.getElem?_of_mem hy
  obtain ⟨p, n, q, x, hq, hx, rfl⟩ := labs_inv (getElem?_lt hi)
  rw [labs_at hq hx] at hi
  cases hi
  have h1 := getElem?_lt hq
  have h2 := getElem?_lt hx
  have h3 := h.four
  have h4 := h.five q (List.mem_of_getElem? hq)
  obtain ⟨a, b, c, d, e, f, g, _⟩ := h.stp q (List.mem_of_getElem? hq) x (List.mem_of_getElem? hx)
  exact ⟨by show p < 4; omega, by show n < 10; omega, by show x.lo < 1000; omega, by show x.hi < 1000; omega, by show x.mn < 1000; omega, by show x.mx < 1000; omega⟩
/-- What Plan answers of a plan's text. -/
def planS (J K D : Nat) (ps : List (List Stp)) (N : Int) : List UInt8 × Bool × Int :=
  if N < 0 ∨ 1000 < N then ([], false, 5)
  else if (firstTight J (labs ps)).isSome then ((nameB (tightT J ps).pl (tightT J ps).no).data.toList, false, 6)
  else planB J K D ps N.toNat
theorem text_is {ps : List (List Stp)} (h : GoodS ps) {J K D : Nat} (hJ : J < 10) (hK : 1 ≤ K) (hK2 : K < 10) (hD : D < 10000) {s : ByteArray} (hs : s = ⟨(textL J K D (labs ps)).toArray⟩) :
    (checkF s = if 120 < s.size then (1, 0) else (0, 0)) ∧ (s.size ≤ 120 → ∀ N, planF s N = planS J K D ps N) := by
  rw [text_lst] at hs
  have hc := text_check hJ hK2 hD h.pos h.four h.five (by rw [← labs_len]; exact h.nine) h.np (fun q hq x hx => by
    obtain ⟨a, b, c, d, e, f, g, i⟩ := h.stp q hq x hx
    have e1 : ¬ x.lo = 0 := by omega
    have e2 : ¬ x.hi < x.lo := by omega
    have e3 : ¬ K = 0 := by omega
    have e4 : ¬ x.mx < x.mn := by omega
    simp [wrongB, e1, e2, e3, e4]) hs
  obtain ⟨r1, r2, r3, _, r5⟩ := text_read hJ hK2 hD h.pos (by have := h.four; omega) h.np hs
  refine ⟨hc, fun h120 N => ?_⟩
  rw [if_neg (by omega)] at hc
  unfold planF planS
  rw [hc, r1, r2, r3, r5]
  simp
theorem planS_err {J K D : Nat} {ps : List (List Stp)} {N : Int} (h0 : 0 ≤ N) (h1 : N ≤ 1000) : planS J K D ps N = if (firstTight J (labs ps)).isSome then ((nameB (tightT J ps).pl (tightT J ps).no).data.toList, false, 6) else planB J K D ps N.toNat := by
  unfold planS
  rw [if_neg (by omega)]
/-- What Patient asks. -/
structure PatP (J K D : Nat) (ps : List (List Stp)) (A B : List UInt8 × Bool × Int) : Prop where
  err : A.2.2 = 0 ∨ A.2.2 = 6 ∨ A.2.2 = 7 ∨ A.2.2 = 8
  sure : A.2.2 = 0 → A.2.1 = true → B = A
  more : A.2.2 = 0 → A.2.1 = false → B.2.2 = 0 ∧ ∃ e e' o o' f f', Told J K D ps A.1 e o f ∧ Told J K D ps B.1 e' o' f' ∧ e' ≤ e
  none : A.2.2 = 7 ∨ A.2.2 = 6 → B.2.2 = A.2.2 ∧ B.1 = A.1
  spent : A.2.2 = 8 → B.2.2 = 0 ∨ B.2.2 = 7 ∨ B.2.2 = 8
theorem patient_is {J K D : Nat} {ps : List (List Stp)} (hg : GoodP J K D ps) {a b : Nat} (hab : a ≤ b) (hb : b ≤ 1000) : PatP J K D ps (planS J K D ps (a : Int)) (planS J K D ps (b : Int)) := by
  rw [planS_err (by omega) (by omega), planS_err (by omega) (by omega)]
  split
  · exact ⟨Or.inr (Or.inl rfl), fun h => (by cases h), fun h => (by cases h), fun _ => ⟨rfl, rfl⟩, fun h => (by cases h)⟩
  · rw [Int.toNat_natCast, Int.toNat_natCast]
    have hmA := more_is hg a
    have hmB := more_is hg b
    have hsame : moreF K ps a = false → planB J K D ps b = planB J K D ps a := fun h => by
      rw [h] at hmA
      have hle : (allO K (labs ps) (labs ps).length []).length ≤ a := by
        have := of_decide_eq_false hmA.symm
        omega
      have h2 : moreF K ps b = false := by rw [hmB]; exact decide_eq_false (by omega)
      unfold planB
      rw [ordersF_fst, ordersF_fst, List.take_of_length_le hle, List.take_of_length_le (by omega), h, h2]
    cases hA : bestF J D ps (((ordersF K ps).take a).map (·.1)) with
    | some ba =>
      have eA : planB J K D ps a = (writeF J ps.length (pairs (ba.o.map (turnOfIdx ps)) ba.f), !moreF K ps a, 0) := by unfold planB; rw [hA]
      refine ⟨Or.inl (by rw [eA]), fun _ h2 => hsame (by rw [eA] at h2; simpa using h2), fun _ _ => ?_, fun h => (by rw [eA] at h; rcases h with h | h <;> cases h), fun h => (by rw [eA] at h; cases h)⟩
      obtain ⟨Bx, hBx⟩ := take_more' (ordersF K ps) hab
      obtain ⟨bb, h1, h2⟩ := best_more (B := Bx.map (·.1)) hA
      rw [← List.map_append, ← hBx] at h1
      have eB : planB J K D ps b = (writeF J ps.length (pairs (bb.o.map (turnOfIdx ps)) bb.f), !moreF K ps b, 0) := by unfold planB; rw [h1]
      rw [eA, eB]
      exact ⟨rfl, _, _, _, _, _, _, told_of hg hA, told_of hg h1, h2⟩
    | none =>
      have eA : planB J K D ps a = ([], false, if moreF K ps a then 8 else 7) := by unfold planB; rw [hA]
      have hB : (planB J K D ps b).2.2 = 0 ∨ (planB J K D ps b).2.2 = 7 ∨ (planB J K D ps b).2.2 = 8 := by
        unfold planB
        split
        · exact Or.inl rfl
        · cases moreF K ps b
          · exact Or.inr (Or.inl rfl)
          · exact Or.inr (Or.inr rfl)
      cases hm : moreF K ps a with
      | true =>
        rw [hm] at eA
        rw [eA]
        exact ⟨Or.inr (Or.inr (Or.inr rfl)), fun h => (by cases h), fun h => (by cases h), fun h => (by rcases h with h | h <;> cases h), fun _ => hB⟩
      | false =>
        have hs := hsame hm
        rw [hm] at eA
        rw [hs, eA]
        exact ⟨Or.inr (Or.inr (Or.inl rfl)), fun h => (by cases h), fun h => (by cases h), fun _ => ⟨rfl, rfl⟩, fun h => (by cases h)⟩
end Hx
end Go.Proofs.YtppcnlkhdgmaiaaDoor
namespace Go.Proofs.YtppcnlkhdgmaiaaDoor
open Go.RowKit

def Hx.tightI (J : Nat) (L : List Hx.Lst) : Int := match Hx.firstTight J L with | some i => (i : Int) | none => -1
theorem Hx.tightAt_prev {J : Nat} {L : List Hx.Lst} {k : Nat} {y a : Hx.Lst} (hy : L[k + 1]? = some y) (ha : L[k]? = some a) : Hx.tightAt J L (k + 1) = Hx.hopeB J a.x y.x := by
  unfold Hx.tightAt
  rw [hy]
  simp only [Nat.add_sub_cancel, ha]
  simp [Hx.hopeB]
theorem Hx.tightI_some {J : Nat} {L : List Hx.Lst} {k : Nat} (hk : k < L.length) (h : ∀ i, i < k → Hx.tightAt J L i = false) (hh : Hx.tightAt J L k = true) : Hx.tightI J L = (k : Int) := by
  unfold Hx.tightI
  rw [Hx.firstTight_some hk h hh]
theorem Hx.tightI_none {J : Nat} {L : List Hx.Lst} (h : ∀ i, i < L.length → Hx.tightAt J L i = false) : Hx.tightI J L = -1 := by
  unfold Hx.tightI
  have : Hx.firstTight J L = none := by
    rw [Hx.firstTight, List.find?_eq_none]
    intro i hi
    simp [h i (List.mem_range.1 hi)]
  rw [this]

set_option maxRecDepth 100000 in
set_option maxHeartbeats 2000000 in
theorem tight_any (J K D : Nat) (L : List Hx.Lst) (v : Value) (w : World) (hJ : J < 1000) (hL : ∀ y ∈ L, KS y) (hpos : 0 < L.length) (hl : L.length ≤ 1000) (h0 : Hx.tightAt J L 0 = false)
    (ho : w.ownsRow 0 39 7 v L.length (ksCells L)) :
    Calls Tryd.prog 17 #[planV J K D v] w fun e w' => e = .returned (.int .i64 (Hx.tightI J L)) ∧ Below w.heap.size w w' := by
  obtain ⟨gs, caps, rfl, _, hgs⟩ := own_pos ho hpos
  have HO := hide ho
  have HL := hide hL
  obtain ⟨FIN, hFIN⟩ : ∃ FIN, FIN = Hx.tightI J L := ⟨_, rfl⟩
  rw [← hFIN]
  have HFIN := hide hFIN
  have HB0 := hide ((Below.refl w.heap.size w).alloc (Nat.le_refl _) (.cells #[.int .i64 (J : Int), .int .i64 (K : Int), .int .i64 (D : Int), .slice (some ⟨gs, 0, none⟩) L.length caps] 28))
  have HP0 := hide (blk_new w #[.int .i64 (J : Int), .int .i64 (K : Int), .int .i64 (D : Int), .slice (some ⟨gs, 0, none⟩) L.length caps] 28)
  have H0 := hide h0
  clear ho hL hFIN h0
  go_enter Tryd.func17, Tryd.ntmps17
  go_upto_region 1 with fail
  generalize w.alloc (.cells #[.int .i64 (J : Int), .int .i64 (K : Int), .int .i64 (D : Int), .slice (some ⟨gs, 0, none⟩) L.length caps] 28) = w1 at HB0 HP0 ⊢
  go_wp2_with fail
  go_loopg [3] (L.length - 1) (fun gk ii wr => ∃ k : Nat, k + 1 ≤ L.length ∧ gk = L.length - (k + 1) ∧ ii = .int .i64 ((k + 1 : Nat) : Int) ∧ Hid (∀ j, j < k + 1 → Hx.tightAt J L j = false) ∧ wr.heap[w.heap.size]? = some (.cells #[.int .i64 (J : Int), .int .i64 (K : Int), .int .i64 (D : Int), .slice (some ⟨gs, 0, none⟩) L.length caps] 28 (0, 0)) ∧ Below w.heap.size w wr)
  case atStart => exact ⟨0, hpos, rfl, rfl, fun j hj => by rw [show j = 0 by omega]; exact unhide H0, unhide HP0, unhide HB0⟩
  case round =>
    clear HP0 HB0
    obtain ⟨k, hk, rfl, rfl, HN, hblk, hbe⟩ := hrel
    have p0 : wr.cell? ⟨w.heap.size, 0, none⟩ = some (.int .i64 (J : Int)) := blk_cell hblk 0
    have p3 : wr.cell? ⟨w.heap.size, 3, none⟩ = some (.slice (some ⟨gs, 0, none⟩) L.length caps) := blk_cell hblk 3
    have HBLK := hide hblk
    have HBE := hide hbe
    clear hblk hbe
    obtain ⟨i, hi⟩ : ∃ i, i = k + 1 := ⟨_, rfl⟩
    rw [← hi] at HN hk ⊢
    have HI := hide hi
    have hki : k < i := by omega
    clear hi
    by_cases hlt : i < L.length
    · have hltI : (i : Int) < (L.length : Int) := by omega
      obtain ⟨y, hy⟩ : ∃ y, L[i]? = some y := ⟨L[i], List.getElem?_eq_getElem hlt⟩
      obtain ⟨a, ha⟩ : ∃ a, L[k]? = some a := ⟨L[k], List.getElem?_eq_getElem (by omega)⟩
      have hks := unhide HL y (List.mem_of_getElem? hy)
      have hka := unhide HL a (List.mem_of_getElem? ha)
      have cx : ∀ t, t < 7 → wr.cell? ⟨gs, i * 7 + t, none⟩ = (kstCells y)[t]? := fun t h => by
        rw [(unhide HBE).cell (p := ⟨gs, i * 7 + t, none⟩) hgs]; exact own_at kstCells 7 (fun _ => rfl) (unhide HO) rfl i y hy t h
      have ca : ∀ t, t < 7 → wr.cell? ⟨gs, k * 7 + t, none⟩ = (kstCells a)[t]? := fun t h => by
        rw [(unhide HBE).cell (p := ⟨gs, k * 7 + t, none⟩) hgs]; exact own_at kstCells 7 (fun _ => rfl) (unhide HO) rfl k a ha t h
      have x0 : wr.cell? ⟨gs, i * 7, none⟩ = some (.int .i64 (y.pl : Int)) := cx 0 (by omega)
      have x1 : wr.cell? ⟨gs, i * 7 + 1, none⟩ = some (.int .i64 (y.no : Int)) := cx 1 (by omega)
      have x2 : wr.cell? ⟨gs, i * 7 + 2, none⟩ = some (.int .i64 (y.x.lo : Int)) := cx 2 (by omega)
      have x3 : wr.cell? ⟨gs, i * 7 + 3, none⟩ = some (.int .i64 (y.x.hi : Int)) := cx 3 (by omega)
      have x4 : wr.cell? ⟨gs, i * 7 + 4, none⟩ = some (.bool y.x.rest) := cx 4 (by omega)
      have x5 : wr.cell? ⟨gs, i * 7 + 5, none⟩ = some (.int .i64 (y.x.mn : Int)) := cx 5 (by omega)
      have x6 : wr.cell? ⟨gs, i * 7 + 6, none⟩ = some (.int .i64 (y.x.mx : Int)) := cx 6 (by omega)
      have HT : Hid (Hx.tightAt J L i = Hx.hopeB J a.x y.x) := by show _ = _; rw [unhide HI] at hy ⊢; exact Hx.tightAt_prev hy ha
      have HA2 : Hid (∀ w', Below w.heap.size w w' → w'.cell? ⟨gs, k * 7 + 2, none⟩ = some (.int .i64 (a.x.lo : Int)) ∧ w'.cell? ⟨gs, k * 7 + 3, none⟩ = some (.int .i64 (a.x.hi : Int))) := fun w' hb => by
        have c : ∀ t, t < 7 → w'.cell? ⟨gs, k * 7 + t, none⟩ = (kstCells a)[t]? := fun t h => by
          rw [hb.cell (p := ⟨gs, k * 7 + t, none⟩) hgs]; exact own_at kstCells 7 (fun _ => rfl) (unhide HO) rfl k a ha t h
        exact ⟨c 2 (by omega), c 3 (by omega)⟩
      clear cx ca hy ha
      go_upto_region 5 with fail
      have HX := hide (bN #[.int .i64 (y.pl : Int), .int .i64 (y.no : Int), .int .i64 (y.x.lo : Int), .int .i64 (y.x.hi : Int), .bool y.x.rest, .int .i64 (y.x.mn : Int), .int .i64 (y.x.mx : Int)] 39 (w := wr) rfl)
      have HBLK1 := hide (bA (.cells #[.int .i64 (y.pl : Int), .int .i64 (y.no : Int), .int .i64 (y.x.lo : Int), .int .i64 (y.x.hi : Int), .bool y.x.rest, .int .i64 (y.x.mn : Int), .int .i64 (y.x.mx : Int)] 39) (unhide HBLK))
      have HBE1 := hide (belA (.cells #[.int .i64 (y.pl : Int), .int .i64 (y.no : Int), .int .i64 (y.x.lo : Int), .int .i64 (y.x.hi : Int), .bool y.x.rest, .int .i64 (y.x.mn : Int), .int .i64 (y.x.mx : Int)] 39) (unhide HBE))
      obtain ⟨tb, htb⟩ : ∃ tb, tb = wr.heap.size := ⟨_, rfl⟩
      rw [← htb] at HX ⊢
      clear HBLK HBE x0 x1 x2 x3 x4 x5 x6 htb p3 p0
      generalize wr.alloc (.cells #[.int .i64 (y.pl : Int), .int .i64 (y.no : Int), .int .i64 (y.x.lo : Int), .int .i64 (y.x.hi : Int), .bool y.x.rest, .int .i64 (y.x.mn : Int), .int .i64 (y.x.mx : Int)] 39) = wx at HX HBLK1 HBE1 ⊢
      have z4 : wx.cell? ⟨tb, 4, none⟩ = some (.bool y.x.rest) := blk_cell (unhide HX) 4
      have z5 : wx.cell? ⟨tb, 5, none⟩ = some (.int .i64 (y.x.mn : Int)) := blk_cell (unhide HX) 5
      have z6 : wx.cell? ⟨tb, 6, none⟩ = some (.int .i64 (y.x.mx : Int)) := blk_cell (unhide HX) 6
      have p0 : wx.cell? ⟨w.heap.size, 0, none⟩ = some (.int .i64 (J : Int)) := blk_cell (unhide HBLK1) 0
      have p3 : wx.cell? ⟨w.heap.size, 3, none⟩ = some (.slice (some ⟨gs, 0, none⟩) L.length caps) := blk_cell (unhide HBLK1) 3
      obtain ⟨a2, a3⟩ := unhide HA2 wx (unhide HBE1)
      cases hr : y.x.rest with
      | false =>
        rw [hr] at z4
        have HNN : Hid (∀ j, j < i + 1 → Hx.tightAt J L j = false) := fun j hj => by
          by_cases e : j = i
          · subst e; rw [unhide HT]; simp [Hx.hopeB, hr]
          · exact unhide HN j (by omega)
        clear hr
        go_quiet (fail)
        go_wp2_with fail
        go_roundg (L.length - (i + 1))
        case measure => omega
        case rel => exact ⟨i, by omega, rfl, by go_num, HNN, bQ _ (unhide HBLK1), below_drewN (unhide HBE1) _⟩
      | true =>
        rw [hr] at z4
        have b1 := hks.mn
        have b2 := hks.mx
        have b3 := hka.lo
        have b4 := hka.hi
        have hwI : IntKind.i64.wrap ((i : Int) - 1) = (k : Int) := by
          rw [show (i : Int) - 1 = (k : Int) by have := unhide HI; omega]
          exact IntWalk.i64_in _ ⟨by omega, by omega⟩
        have hk1 : (0 : Int) ≤ (k : Int) := by omega
        have hk2 : (k : Int) < (L.length : Int) := by omega
        by_cases hh : Hx.hopeB J a.x y.x = true
        · have hd : decide ((a.x.lo : Int) + (y.x.mx : Int) < 2 * (J : Int) + (a.x.hi : Int) + (y.x.mn : Int)) = true := by
            simp [Hx.hopeB, hr] at hh
            simp
            omega
          have HF : Hid (FIN = (i : Int)) := by show _ = _; rw [unhide HFIN]; exact Hx.tightI_some hlt (unhide HN) (by rw [unhide HT]; exact hh)
          clear hr hh
          go_quiet (fail)
          go_wp2_with fail
          go_returns
          rw [unhide HF]
          exact ⟨rfl, below_drewN (unhide HBE1) _⟩
        · have hd : decide ((a.x.lo : Int) + (y.x.mx : Int) < 2 * (J : Int) + (a.x.hi : Int) + (y.x.mn : Int)) = false := by
            simp [Hx.hopeB, hr] at hh
            simp
            omega
          have HNN : Hid (∀ j, j < i + 1 → Hx.tightAt J L j = false) := fun j hj => by
            by_cases e : j = i
            · subst e; rw [unhide HT]; simpa using hh
            · exact unhide HN j (by omega)
          clear hr hh
          go_quiet (fail)
          go_wp2_with fail
          go_roundg (L.length - (i + 1))
          case measure => omega
          case rel => exact ⟨i, by omega, rfl, by go_num, HNN, bQ _ (unhide HBLK1), below_drewN (unhide HBE1) _⟩
    · have hltI : ¬ (i : Int) < (L.length : Int) := by omega
      have HF : Hid (FIN = -1) := by show _ = _; rw [unhide HFIN]; exact Hx.tightI_none (fun j hj => unhide HN j (by omega))
      go_wp2_with fail
      go_returns
      rw [unhide HF]
      exact ⟨rfl, unhide HBE⟩
end Go.Proofs.YtppcnlkhdgmaiaaDoor
namespace Go.Proofs.YtppcnlkhdgmaiaaDoor
namespace Hx
theorem at_lt {α : Type} {l : List α} {i : Nat} {x : α} (h : l[i]? = some x) : i < l.length := by
  rcases Nat.lt_or_ge i l.length with g | g
  · exact g
  · rw [List.getElem?_eq_none g] at h; cases h
theorem right_own {l : List TStp} (h : Right l) {i : Nat} {x : TStp} (hx : l[i]? = some x) : x.no = (holdF (l.take i) x.pl).2 ∧ x.out = (holdF (l.take i) x.pl).1 ∧ x.lo ≤ x.hi ∧ 1 ≤ x.lo := by
  have := h.right i (at_lt hx)
  unfold rightF at this
  rw [hx] at this
  simp only [Bool.and_eq_true] at this
  have h1 := this.1
  unfold ownRight at h1
  simp only [Bool.and_eq_true, beq_iff_eq, Bool.not_eq_true', decide_eq_false_iff_not] at h1
  obtain ⟨⟨⟨⟨a, b⟩, c⟩, d⟩, e⟩ := h1
  refine ⟨a, e, by omega, ?_⟩
  have : ¬ x.lo = 0 := by simpa using b
  omega
theorem take_more {α : Type} {l : List α} {i : Nat} {x : α} (h : l[i]? = some x) : l.take (i + 1) = l.take i ++ [x] := by rw [List.take_add_one, h]; rfl
theorem hold_at {l : List TStp} {i : Nat} {x : TStp} (h : l[i]? = some x) (p : Nat) : holdF (l.take (i + 1)) p = if x.pl = p then (x.inn, (holdF (l.take i) p).2 + 1) else holdF (l.take i) p := by rw [take_more h, holdF_snoc]
theorem hold_mono {l : List TStp} {p : Nat} : ∀ (d i : Nat), (holdF (l.take i) p).2 ≤ (holdF (l.take (i + d)) p).2
  | 0, _ => Nat.le_refl _
  | d + 1, i => by
    have h1 := hold_mono (l := l) (p := p) d i
    refine Nat.le_trans h1 ?_
    rw [← Nat.add_assoc]
    cases h : l[i + d]? with
    | none =>
      have hl : l.length ≤ i + d := List.getElem?_eq_none_iff.1 h
      rw [List.take_of_length_le hl, List.take_of_length_le (by omega)]
      exact Nat.le_refl _
    | some x =>
      rw [hold_at h]
      split <;> simp
/-- The plate's step ahead: it is the last of its plate, and the plate stays where it was put. -/
theorem ahead_last {l : List TStp} (h : Right l) {k i : Nat} {x y : TStp} (hx : l[k]? = some x) (hy : l[i]? = some y) (_hik : i < k) (hp : y.pl = x.pl) (hn : y.no + 1 = x.no) :
    ∀ j z, i < j → j < k → l[j]? = some z → z.pl ≠ x.pl := by
  intro j z hij hjk hz e
  have a1 := (right_own h hx).1
  have a2 := (right_own h hy).1
  have a3 := (right_own h hz).1
  have b1 := hold_at hy x.pl
  rw [if_pos hp] at b1
  have b3 := hold_at hz x.pl
  rw [if_pos e] at b3
  have c1 := hold_mono (l := l) (p := x.pl) (j - (i + 1)) (i + 1)
  rw [show i + 1 + (j - (i + 1)) = j by omega, b1] at c1
  have c2 := hold_mono (l := l) (p := x.pl) (k - (j + 1)) (j + 1)
  rw [show j + 1 + (k - (j + 1)) = k by omega, b3] at c2
  rw [hp] at a2
  simp only at c1 c2
  omega
theorem hold_kept {l : List TStp} {p i : Nat} : ∀ (d : Nat), (∀ j z, i ≤ j → j < i + d → l[j]? = some z → z.pl ≠ p) → holdF (l.take (i + d)) p = holdF (l.take i) p
  | 0, _ => rfl
  | d + 1, h => by
    rw [← Nat.add_assoc]
    cases hz : l[i + d]? with
    | none =>
      have hl : l.length ≤ i + d := List.getElem?_eq_none_iff.1 hz
      have e1 : l.take (i + d + 1) = l.take (i + d) := by rw [List.take_of_length_le hl, List.take_of_length_le (by omega)]
      rw [e1]
      exact hold_kept d (fun j z a b c => h j z a (by omega) c)
    | some z =>
      rw [hold_at hz, if_neg (h (i + d) z (by omega) (by omega) hz)]
      exact hold_kept d (fun j z a b c => h j z a (by omega) c)
theorem ahead_inn {l : List TStp} (h : Right l) {k i : Nat} {x y : TStp} (hx : l[k]? = some x) (hy : l[i]? = some y) (hik : i < k) (hp : y.pl = x.pl) (hn : y.no + 1 = x.no) (hr : x.rest = true) : 0 ≤ y.inn := by
  have a1 := rest_held h hx hr
  have hl := ahead_last h hx hy hik hp hn
  have e := hold_kept (l := l) (p := x.pl) (i := i + 1) (k - (i + 1)) (fun j z a b c => hl j z (by omega) (by omega) c)
  rw [show i + 1 + (k - (i + 1)) = k by omega, hold_at hy, if_pos hp] at e
  rw [e] at a1
  exact a1

/-- A step has begun as it should. -/
def Beg (l : List TStp) (J : Nat) (sts : List (Nat × Option Nat)) (i : Nat) (x : TStp) (b : Nat) : Prop :=
  x.t ≤ b ∧ b ≤ x.t + J ∧ (x.rest = true → ∀ (j : Nat) (y : TStp) (b' e' : Nat), j < i → l[j]? = some y → y.pl = x.pl → y.no + 1 = x.no → sts[j]? = some (b', some e') → (x.mn : Int) ≤ (b : Int) - e' ∧ (b : Int) - e' ≤ x.mx)
/-- A step was over as it should be. -/
def FinD (l : List TStp) (J : Nat) (sts : List (Nat × Option Nat)) (i : Nat) : Prop :=
  ∃ x b e, l[i]? = some x ∧ sts[i]? = some (b, some e) ∧ b + x.lo ≤ e ∧ e ≤ b + x.hi ∧ Beg l J sts i x b
/-- What has been told so far, with k steps that were over as they should be. -/
structure Sof (l : List TStp) (J : Nat) (sts : List (Nat × Option Nat)) (k : Nat) : Prop where
  kl : k ≤ l.length
  ks : k ≤ sts.length
  sl : sts.length ≤ l.length
  sk : sts.length ≤ k + 1
  fin : ∀ i, i < k → FinD l J sts i
  ord : ∀ (i b : Nat) (o : Option Nat), sts[i + 1]? = some (b, o) → ∃ b0 e0, sts[i]? = some (b0, some e0) ∧ e0 ≤ b
  pos : ∀ (i b e : Nat), sts[i]? = some (b, some e) → b ≤ e
structure Inv (l : List TStp) (J : Nat) (m : Ms) : Prop where
  so : Sof l J m.sts m.k
  len : m.sts.length = m.k + (if m.work then 1 else 0)
  beg : m.work = true → ∃ x b, l[m.k]? = some x ∧ m.sts[m.k]? = some (b, none) ∧ b ≤ m.time ∧ Beg l J m.sts m.k x b
  tm : ∀ (i b e : Nat), i < m.k → m.sts[i]? = some (b, some e) → e ≤ m.time
  rbl : m.rb.length = 4
  rb : ∀ (i : Nat) (y : TStp) (b e : Nat), i < m.k → l[i]? = some y → 0 ≤ y.inn → (∀ j z, i < j → j < m.k → l[j]? = some z → z.pl ≠ y.pl) → m.sts[i]? = some (b, some e) → m.rb.getD y.pl 0 = (e : Int)

theorem Inv.start (l : List TStp) (J : Nat) : Inv l J startM := by
  refine ⟨⟨Nat.zero_le _, Nat.zero_le _, Nat.zero_le _, Nat.zero_le _, fun i hi => absurd hi (Nat.not_lt_zero _), fun i b o h => ?_, fun i b e h => ?_⟩, rfl, fun h => (by cases h), fun i b e h => absurd h (Nat.not_lt_zero _), rfl, fun i y b e h => absurd h (Nat.not_lt_zero _)⟩
  · simp [startM] at h
  · simp [startM] at h
theorem Inv.later {l : List TStp} {J : Nat} {m : Ms} (h : Inv l J m) (c : Nat) : Inv l J { m with time := m.time + c } := by
  refine ⟨h.so, h.len, fun hw => ?_, fun i b e hi hs => ?_, h.rbl, h.rb⟩
  · obtain ⟨x, b, h1, h2, h3, h4⟩ := h.beg hw
    exact ⟨x, b, h1, h2, by show b ≤ m.time + c; omega, h4⟩
  · have := h.tm i b e hi hs
    show e ≤ m.time + c
    omega
theorem began_is {l : List TStp} {J : Nat} {m : Ms} (_h : Inv l J m) {b : Nat} {o : Option Nat} (hs : m.sts[m.k]? = some (b, o)) : beganM m = b := by
  unfold beganM
  rw [List.getD_eq_getElem?_getD, hs]
  rfl
/-- What is told of a step at work that ends. -/
theorem Sof.ends {l : List TStp} {J : Nat} {m : Ms} (h : Inv l J m) (hw : m.work = true) (tk : Nat) : Sof l J (m.sts.set m.k (beganM m, some (beganM m + tk))) m.k := by
  obtain ⟨x, b, h1, h2, h3, h4⟩ := h.beg hw
  have hb := began_is h h2
  have hlen := h.len
  rw [hw] at hlen
  simp at hlen
  have hlt := at_lt h1
  have ho := h.so
  have hset : ∀ i, i < m.k → (m.sts.set m.k (beganM m, some (beganM m + tk)))[i]? = m.sts[i]? := fun i hi => by rw [List.getElem?_set_ne (by omega)]
  refine ⟨ho.kl, by rw [List.length_set]; omega, by rw [List.length_set]; omega, by rw [List.length_set]; omega, fun i hi => ?_, fun i b' o hi => ?_, fun i b' e' hi => ?_⟩
  · obtain ⟨x', b', e', a1, a2, a3, a4, a5, a6, a7⟩ := ho.fin i hi
    refine ⟨x', b', e', a1, by rw [hset i hi]; exact a2, a3, a4, a5, a6, fun hr j y b2 e2 hj hy hp hn hs => ?_⟩
    rw [hset j (by omega)] at hs
    exact a7 hr j y b2 e2 hj hy hp hn hs
  · have hil := at_lt hi
    rw [List.length_set] at hil
    by_cases e : i + 1 = m.k
    · have hk : (m.sts.set m.k (beganM m, some (beganM m + tk)))[i + 1]? = some (beganM m, some (beganM m + tk)) := by
        rw [e, List.getElem?_set_self (by omega)]
      rw [hk] at hi
      cases hi
      obtain ⟨b0, e0, c1, c2⟩ := ho.ord i b none (by rw [e]; exact h2)
      exact ⟨b0, e0, by rw [hset i (by omega)]; exact c1, by omega⟩
    · rw [hset (i + 1) (by omega)] at hi
      obtain ⟨b0, e0, c1, c2⟩ := ho.ord i b' o hi
      exact ⟨b0, e0, by rw [hset i (by omega)]; exact c1, c2⟩
  · have hil := at_lt hi
    rw [List.length_set] at hil
    by_cases e : i = m.k
    · subst e
      rw [List.getElem?_set_self (by omega)] at hi
      cases hi
      omega
    · rw [hset i (by omega)] at hi
      exact ho.pos i b' e' hi
theorem Inv.finish {l : List TStp} (hr : Right l) {J : Nat} {takes : List Nat} {m m' : Ms} {x : TStp} (h : Inv l J m) (hw : m.work = true) (hx : l[m.k]? = some x) (hov : overM takes m = true) (hf : finishM x (takes.getD m.k 0) m = (none, m')) : Inv l J m' := by
  obtain ⟨x', b, h1, h2, h3, h4⟩ := h.beg hw
  rw [hx] at h1
  cases h1
  have hb := began_is h h2
  have hlen := h.len
  rw [hw] at hlen
  simp at hlen
  have hlt := at_lt hx
  have hso := Sof.ends h hw (takes.getD m.k 0)
  have hte : beganM m + takes.getD m.k 0 ≤ m.time := by
    unfold overM at hov
    simp only [Bool.and_eq_true, decide_eq_true_eq] at hov
    exact hov.2
  have hlo : ¬ takes.getD m.k 0 < x.lo ∧ ¬ x.hi < takes.getD m.k 0 := by
    unfold finishM at hf
    split at hf
    · cases hf
    · split at hf
      · cases hf
      · exact ⟨by assumption, by assumption⟩
  rw [finishM_none hf]
  have hset : ∀ i, i < m.k → (m.sts.set m.k (beganM m, some (beganM m + takes.getD m.k 0)))[i]? = m.sts[i]? := fun i hi => by rw [List.getElem?_set_ne (by omega)]
  have hself : (m.sts.set m.k (beganM m, some (beganM m + takes.getD m.k 0)))[m.k]? = some (beganM m, some (beganM m + takes.getD m.k 0)) := by rw [List.getElem?_set_self (by omega)]
  have hpl := (hr.ok x (List.mem_of_getElem? hx)).pl
  refine ⟨⟨by show m.k + 1 ≤ _; omega, by show m.k + 1 ≤ _; rw [List.length_set]; omega, hso.sl, by show _ ≤ m.k + 1 + 1; rw [List.length_set]; omega, fun i hi => ?_, hso.ord, hso.pos⟩, by show (m.sts.set _ _).length = m.k + 1 + 0; rw [List.length_set]; omega, fun h => (by cases h), fun i b' e' hi hs => ?_, ?_, ?_⟩
  · by_cases e : i = m.k
    · subst e
      refine ⟨x, beganM m, beganM m + takes.getD m.k 0, hx, hself, by omega, by omega, by rw [hb]; exact h4.1, by rw [hb]; exact h4.2.1, fun hrest j y b2 e2 hj hy hp hn hs => ?_⟩
      rw [hset j hj] at hs
      rw [hb]
      exact h4.2.2 hrest j y b2 e2 hj hy hp hn hs
    · exact hso.fin i (by have : i < m.k + 1 := hi; omega)
  · by_cases e : i = m.k
    · subst e
      rw [hself] at hs
      cases hs
      exact hte
    · have hi' : i < m.k + 1 := hi
      rw [hset i (by omega)] at hs
      exact h.tm i b' e' (by omega) hs
  · show (if 0 ≤ x.inn then m.rb.set x.pl _ else m.rb).length = 4
    split
    · rw [List.length_set]; exact h.rbl
    · exact h.rbl
  · intro i y b' e' hi hy hin hlast hs
    have hi' : i < m.k + 1 := hi
    show (if 0 ≤ x.inn then m.rb.set x.pl ((beganM m + takes.getD m.k 0 : Nat) : Int) else m.rb).getD y.pl 0 = (e' : Int)
    by_cases e : i = m.k
    · subst e
      rw [hx] at hy
      cases hy
      rw [hself] at hs
      cases hs
      rw [if_pos hin, List.getD_eq_getElem?_getD, List.getElem?_set_self (by rw [h.rbl]; exact hpl)]
      rfl
    · have hne := hlast m.k x (by omega) (by show m.k < m.k + 1; omega) hx
      rw [hset i (by omega)] at hs
      have := h.rb i y b' e' (by omega) hy hin (fun j z a b c => hlast j z a (by show j < m.k + 1; omega) c) hs
      split
      · rw [List.getD_eq_getElem?_getD, List.getElem?_set_ne hne, ← List.getD_eq_getElem?_getD]
        exact this
      · exact this
theorem Inv.begin {l : List TStp} (hr : Right l) {J : Nat} {m m' : Ms} {x : TStp} (h : Inv l J m) (hw : m.work = false) (hx : l[m.k]? = some x) (ht : ¬ m.time < x.t) (hf : beginM J x m = (none, m')) : Inv l J m' := by
  have hlen := h.len
  rw [hw] at hlen
  simp at hlen
  have hlt := at_lt hx
  have ho := h.so
  have hw1 : ¬ x.t + J < m.time ∧ windowB x ((m.time : Int) - m.rb.getD x.pl 0) = false := by
    unfold beginM at hf
    split at hf
    · cases hf
    · rename_i g1
      split at hf
      · cases hf
      · rename_i g2
        exact ⟨g1, by cases hq : windowB x ((m.time : Int) - m.rb.getD x.pl 0) with
          | false => rfl
          | true => exact absurd hq g2⟩
  rw [beginM_none hf]
  have happ : ∀ i, i < m.k → (m.sts ++ [(m.time, none)])[i]? = m.sts[i]? := fun i hi => by rw [List.getElem?_append_left (by omega)]
  have hself : (m.sts ++ [(m.time, (none : Option Nat))])[m.k]? = some (m.time, none) := by rw [← hlen, List.getElem?_append_right (Nat.le_refl _), Nat.sub_self]; rfl
  have hbeg : Beg l J (m.sts ++ [(m.time, none)]) m.k x m.time := by
    refine ⟨by omega, by omega, fun hrest j y b2 e2 hj hy hp hn hs => ?_⟩
    rw [happ j hj] at hs
    have h1 := h.rb j y b2 e2 hj hy (ahead_inn hr hx hy hj hp hn hrest) (by rw [hp]; exact ahead_last hr hx hy hj hp hn) hs
    have h2 := hw1.2
    unfold windowB at h2
    rw [hrest, Bool.true_and, Bool.or_eq_false_iff, decide_eq_false_iff_not, decide_eq_false_iff_not] at h2
    rw [hp] at h1
    rw [h1] at h2
    omega
  refine ⟨⟨ho.kl, by show m.k ≤ (m.sts ++ [(m.time, none)]).length; rw [List.length_append]; omega, by rw [List.length_append]; simp; omega, by rw [List.length_append]; simp; omega, fun i hi => ?_, fun i b' o hi => ?_, fun i b' e' hi => ?_⟩, by show (m.sts ++ [(m.time, none)]).length = m.k + 1; rw [List.length_append]; simp; omega, fun _ => ⟨x, m.time, hx, hself, Nat.le_refl _, hbeg⟩, fun i b' e' hi hs => ?_, h.rbl, fun i y b' e' hi hy hin hlast hs => ?_⟩
  · obtain ⟨x', b', e', a1, a2, a3, a4, a5, a6, a7⟩ := ho.fin i hi
    have hi' : i < m.k := hi
    refine ⟨x', b', e', a1, by rw [happ i hi']; exact a2, a3, a4, a5, a6, fun hrest j y b2 e2 hj hy hp hn hs => ?_⟩
    rw [happ j (by omega)] at hs
    exact a7 hrest j y b2 e2 hj hy hp hn hs
  · have hil := at_lt hi
    rw [List.length_append] at hil
    simp at hil
    by_cases e : i + 1 = m.k
    · rw [e, hself] at hi
      cases hi
      obtain ⟨x', b0, e0, a1, a2, _⟩ := ho.fin i (by omega)
      exact ⟨b0, e0, by rw [happ i (by omega)]; exact a2, h.tm i b0 e0 (by omega) a2⟩
    · rw [happ (i + 1) (by omega)] at hi
      obtain ⟨b0, e0, c1, c2⟩ := ho.ord i b' o hi
      exact ⟨b0, e0, by rw [happ i (by omega)]; exact c1, c2⟩
  · have hil := at_lt hi
    rw [List.length_append] at hil
    simp at hil
    by_cases e : i = m.k
    · rw [e, hself] at hi; cases hi
    · rw [happ i (by omega)] at hi
      exact ho.pos i b' e' hi
  · rw [happ i hi] at hs
    exact h.tm i b' e' hi hs
  · rw [happ i hi] at hs
    exact h.rb i y b' e' hi hy hin hlast hs

/-- What a look comes to. -/
def LkS (l : List TStp) (J : Nat) (r : Nat × Ms) : Prop := Sof l J r.2.sts r.2.k ∧ (r.1 = 1 → r.2.k = l.length) ∧ (r.1 = 0 → Inv l J r.2) ∧ r.1 < 6 ∧ (2 ≤ r.1 → r.2.k < l.length)
theorem one_cases {l : List TStp} (hr : Right l) {J : Nat} {takes : List Nat} {m : Ms} (h : Inv l J m) :
    (∃ m', oneM l J takes m = (none, m') ∧ Inv l J m') ∨ (∃ e m', oneM l J takes m = (some e, m') ∧ LkS l J (e, m')) := by
  unfold oneM
  cases hx : l[m.k]? with
  | none =>
    refine Or.inr ⟨_, _, rfl, h.so, fun he => ?_, fun _ => h, ?_, ?_⟩
    · have := List.getElem?_eq_none_iff.1 hx
      have := h.so.kl
      show m.k = _
      omega
    · show (if m.work = true then 0 else 1) < 6; split <;> omega
    · intro h2
      have h3 : 2 ≤ (if m.work = true then 0 else 1) := h2
      split at h3 <;> omega
  | some x =>
    have hlt := at_lt hx
    simp only
    by_cases hw : m.work = true
    · rw [if_pos hw]
      by_cases hov : overM takes m = true
      · rw [if_pos hov]
        cases hf : finishM x (takes.getD m.k 0) m with
        | mk r m' =>
          cases r with
          | none => exact Or.inl ⟨m', rfl, h.finish hr hw hx hov hf⟩
          | some e =>
            refine Or.inr ⟨e, m', rfl, ?_⟩
            have hs := Sof.ends h hw (takes.getD m.k 0)
            unfold finishM at hf
            split at hf
            · cases hf
              exact ⟨hs, fun h => (by cases h), fun h => (by cases h), by show 2 < 6; omega, fun _ => hlt⟩
            · split at hf
              · cases hf
                exact ⟨hs, fun h => (by cases h), fun h => (by cases h), by show 3 < 6; omega, fun _ => hlt⟩
              · cases hf
      · rw [if_neg hov]
        split
        · exact Or.inr ⟨_, _, rfl, h.so, fun h => (by cases h), fun h => (by cases h), by show 3 < 6; omega, fun _ => hlt⟩
        · exact Or.inr ⟨_, _, rfl, h.so, fun h => (by cases h), fun _ => h, by show 0 < 6; omega, fun h => absurd h (by show ¬ 2 ≤ 0; omega)⟩
    · rw [if_neg hw]
      have hw : m.work = false := by simpa using hw
      by_cases ht : m.time < x.t
      · rw [if_pos ht]
        exact Or.inr ⟨_, _, rfl, h.so, fun h => (by cases h), fun _ => h, by show 0 < 6; omega, fun h => absurd h (by show ¬ 2 ≤ 0; omega)⟩
      · rw [if_neg ht]
        cases hf : beginM J x m with
        | mk r m' =>
          cases r with
          | none => exact Or.inl ⟨m', rfl, h.begin hr hw hx ht hf⟩
          | some e =>
            refine Or.inr ⟨e, m', rfl, ?_⟩
            unfold beginM at hf
            split at hf
            · cases hf
              exact ⟨h.so, fun h => (by cases h), fun h => (by cases h), by show 4 < 6; omega, fun _ => hlt⟩
            · split at hf
              · cases hf
                exact ⟨h.so, fun h => (by cases h), fun h => (by cases h), by show 5 < 6; omega, fun _ => hlt⟩
              · cases hf
theorem look_safe {l : List TStp} (hr : Right l) {J : Nat} {takes : List Nat} : ∀ (n : Nat) (m : Ms), muM l m ≤ n → Inv l J m → LkS l J (lookM l J takes m)
  | n, m, hn, h => by
    rcases one_cases (takes := takes) hr h with ⟨m', h1, h2⟩ | ⟨e, m', h1, h2⟩
    · have hmu := oneM_mu h1
      rw [lookM_none h1]
      cases n with
      | zero => omega
      | succ n => exact look_safe hr n m' (by omega) h2
    · rw [lookM_some h1]
      exact h2
theorem run_safe {l : List TStp} (hr : Right l) {J : Nat} {takes : List Nat} : ∀ (cs : List Nat) (r : Nat × Ms), LkS l J r → LkS l J (runM l J takes cs r)
  | [], r, h => h
  | c :: cs, r, h => by
    by_cases h0 : r.1 = 0
    · rw [runM_cons h0]
      exact run_safe hr cs _ (look_safe hr _ _ (Nat.le_refl _) ((h.2.2.1 h0).later c))
    · rw [runM_end h0]
      exact h
theorem mach_safe {l : List TStp} (hr : Right l) (J : Nat) (clock takes : List Nat) : LkS l J (machF l J clock takes) :=
  run_safe hr clock _ (look_safe hr _ _ (Nat.le_refl _) (Inv.start l J))
end Hx
end Go.Proofs.YtppcnlkhdgmaiaaDoor
namespace Go.Proofs.YtppcnlkhdgmaiaaDoor
open Go.RowKit

/-- A table has each step of a plan once, as it is, in its plate's order. -/
structure Hx.WholeP (L : List Hx.Lst) (l : List Hx.TStp) : Prop where
  len : l.length = L.length
  pl : ∀ (k : Nat) (z : Hx.TStp), l[k]? = some z → z.pl < 4 ∧ z.no = (Hx.holdF (l.take k) z.pl).2
  st : ∀ (k : Nat) (z : Hx.TStp), l[k]? = some z → ∃ (i : Nat) (y : Hx.Lst), L[i]? = some y ∧ y.pl = z.pl ∧ y.no = z.no ∧ y.x.lo = z.lo ∧ y.x.hi = z.hi ∧ y.x.mn = z.mn ∧ y.x.mx = z.mx ∧ y.x.rest = decide (0 ≤ z.out)
  un : ∀ (i j : Nat) (y z : Hx.Lst), L[i]? = some y → L[j]? = some z → y.pl = z.pl → y.no = z.no → i = j
theorem arw_cell {w : World} {g : Nat} {zs : List Int} {T : TypeId} (h : w.heap[g]? = some (.cells (ints zs).toArray T (0, 0))) {j : Nat} (hj : j < zs.length) : w.cell? ⟨g, j, none⟩ = some (.int .i64 (zs.getD j 0)) := by
  rw [blk_cell h j]
  simp [ints, hj]
theorem arw_set (zs : List Int) (p : Nat) (v : Int) : (ints zs).toArray.setIfInBounds p (.int .i64 v) = (ints (zs.set p v)).toArray := by simp [ints, List.map_set]
/-- What lies in memory while whole looks. -/
structure InW (w : World) (P : Array Value) (zs : List Int) (w' : World) : Prop where
  pb : w'.heap[w.heap.size]? = some (.cells P 28 (0, 0))
  nb : w'.heap[w.heap.size + 1]? = some (.cells (ints zs).toArray 106 (0, 0))
  be : Below w.heap.size w w'
theorem InW.alloc {w P zs w'} (h : InW w P zs w') (o : Obj) : InW w P zs (w'.alloc o) := ⟨bA o h.pb, bA o h.nb, belA o h.be⟩
theorem InW.drewN {w P zs w'} (h : InW w P zs w') (n : Nat) : InW w P zs (w'.drewN n) := ⟨h.pb, h.nb, below_drewN h.be n⟩
theorem InW.set {w P zs w'} (h : InW w P zs w') (p : Nat) (v : Int) : InW w P (zs.set p v) (w'.setCell ⟨w.heap.size + 1, p, none⟩ (.int .i64 v)) := by
  refine ⟨blk_set_other h.pb (by omega) _ _, ?_, h.be.setCell (by show _ ≤ w.heap.size + 1; omega) _⟩
  rw [← arw_set]
  exact blk_set h.nb p _

set_option maxRecDepth 100000 in
set_option maxHeartbeats 4000000 in
theorem whole_any (J K D : Nat) (L : List Hx.Lst) (l : List Hx.TStp) (v ev : Value) (w : World) (hL : ∀ y ∈ L, KS y) (hpos : 0 < L.length) (hl : L.length ≤ 1000) (hok : ∀ z ∈ l, Hx.TOk z) (hh : Hx.WholeP L l)
    (ho : w.ownsRow 0 39 7 v L.length (ksCells L)) (he : w.ownsRow 0 55 9 ev (l.map Hx.entOf).length (entsCells (l.map Hx.entOf))) :
    Calls Tryd.prog 21 #[planV J K D v, ev] w fun e w' => e = .returned (.bool true) ∧ Below w.heap.size w w' := by
  have hlen := hh.len
  rw [List.length_map, hlen] at he
  obtain ⟨gs, caps, rfl, _, hgs⟩ := own_pos ho hpos
  obtain ⟨ge, cape, rfl, _, hge⟩ := own_pos he hpos
  have HO := hide ho
  have HE := hide he
  have HL := hide hL
  have HH := hide hh
  have HOK := hide hok
  have HLEN := hide hlen
  obtain ⟨n, hn⟩ : ∃ n, n = L.length := ⟨_, rfl⟩
  have HNL := hide hn
  rw [← hn] at hl hpos ⊢
  have HI0 : Hid (InW w #[.int .i64 (J : Int), .int .i64 (K : Int), .int .i64 (D : Int), .slice (some ⟨gs, 0, none⟩) n caps] (Hx.doneL []) ((w.alloc (.cells #[.int .i64 (J : Int), .int .i64 (K : Int), .int .i64 (D : Int), .slice (some ⟨gs, 0, none⟩) n caps] 28)).alloc (.cells #[.int .i64 0, .int .i64 0, .int .i64 0, .int .i64 0] 106))) :=
    ⟨bA _ (blk_new w _ _), bN _ _ (by simp), belA _ (belA _ (Below.refl _ _))⟩
  clear ho he hL hh hok hlen hn
  go_enter Tryd.func21, Tryd.ntmps21
  go_upto_region 2 with fail
  generalize (w.alloc (.cells #[.int .i64 (J : Int), .int .i64 (K : Int), .int .i64 (D : Int), .slice (some ⟨gs, 0, none⟩) n caps] 28)).alloc (.cells #[.int .i64 0, .int .i64 0, .int .i64 0, .int .i64 0] 106) = W1 at HI0 ⊢
  go_wp2_with fail
  go_loopg [6] n (fun gk kk wr => ∃ k : Nat, k ≤ n ∧ gk = n - k ∧ kk = .int .i64 (k : Int) ∧ InW w #[.int .i64 (J : Int), .int .i64 (K : Int), .int .i64 (D : Int), .slice (some ⟨gs, 0, none⟩) n caps] (Hx.doneL (l.take k)) wr)
  case atStart => exact ⟨0, Nat.zero_le _, rfl, rfl, unhide HI0⟩
  case round =>
    clear HI0
    obtain ⟨k, hk, rfl, rfl, hin⟩ := hrel
    have HIN := hide hin
    have p3 : wr.cell? ⟨w.heap.size, 3, none⟩ = some (.slice (some ⟨gs, 0, none⟩) n caps) := blk_cell hin.pb 3
    clear hin
    by_cases hlt : k < n
    · have hltI : (k : Int) < (n : Int) := by omega
      obtain ⟨z, hz⟩ : ∃ z, l[k]? = some z := ⟨l[k]'(by rw [unhide HLEN, ← unhide HNL]; exact hlt), List.getElem?_eq_getElem _⟩
      obtain ⟨hp4, hno⟩ := (unhide HH).pl k z hz
      obtain ⟨i0, y0, hy0, s1, s2, s3, s4, s5, s6, s7⟩ := (unhide HH).st k z hz
      have HCE : Hid (∀ w', Below w.heap.size w w' → ∀ t, t < 9 → w'.cell? ⟨ge, k * 9 + t, none⟩ = (entCells (Hx.entOf z))[t]?) := fun w' hb t ht => by
        rw [hb.cell (p := ⟨ge, k * 9 + t, none⟩) hge]
        exact own_at entCells 9 (fun _ => rfl) (unhide HE) (by rw [List.length_map]; exact (unhide HLEN).symm) k _ (by rw [List.getElem?_map, hz]; rfl) t ht
      have e0 : wr.cell? ⟨ge, k * 9, none⟩ = some (.int .i64 (z.pl : Int)) := unhide HCE wr (unhide HIN).be 0 (by omega)
      have e1 : wr.cell? ⟨ge, k * 9 + 1, none⟩ = some (.int .i64 (z.no : Int)) := unhide HCE wr (unhide HIN).be 1 (by omega)
      have n0 : wr.cell? ⟨w.heap.size + 1, z.pl, none⟩ = some (.int .i64 (z.no : Int)) := by
        rw [arw_cell (unhide HIN).nb (by rw [Hx.doneL_len]; exact hp4), List.getD_eq_getElem?_getD, Hx.doneL_get _ hp4, hno]; rfl
      have nf := blk_free (unhide HIN).nb
      have d1 : decide ((z.pl : Int) < 0) = false := by simp
      have d2 : decide ((3 : Int) < (z.pl : Int)) = false := by simp; omega
      have hpI : (z.pl : Int) < 4 := by omega
      have hp0 : (0 : Int) ≤ (z.pl : Int) := by omega
      have hnb := ((unhide HOK) z (List.mem_of_getElem? hz)).no
      have HIN2 : Hid (InW w #[.int .i64 (J : Int), .int .i64 (K : Int), .int .i64 (D : Int), .slice (some ⟨gs, 0, none⟩) n caps] (Hx.doneL (l.take (k + 1))) (wr.setCell ⟨w.heap.size + 1, z.pl, none⟩ (.int .i64 ((z.no : Int) + 1)))) := by
        have e : Hx.doneL (l.take (k + 1)) = (Hx.doneL (l.take k)).set z.pl ((z.no : Int) + 1) := by rw [Hx.take_more hz, Hx.doneL_snoc, hno]
        rw [e]
        exact (unhide HIN).set z.pl _
      have HZ := hide hz
      have HNO := hide hno
      have HS := hide (⟨hy0, s1, s2, s3, s4, s5, s6, s7⟩ : _ ∧ _ ∧ _ ∧ _ ∧ _ ∧ _ ∧ _ ∧ _)
      clear hz hno hy0 s1 s2 s3 s4 s5 s6 s7
      go_wp2_with fail
      go_quiet (fail)
      go_upto_region 8 with fail
      generalize hw2 : (World.drewN wr _).setCell ⟨w.heap.size + 1, z.pl, none⟩ (.int .i64 ((z.no : Int) + 1)) = w2
      have HIN3 : Hid (InW w #[.int .i64 (J : Int), .int .i64 (K : Int), .int .i64 (D : Int), .slice (some ⟨gs, 0, none⟩) n caps] (Hx.doneL (l.take (k + 1))) w2) := by rw [← hw2]; exact (unhide HIN2).drewN _
      clear hw2 HIN2 HIN e0 e1 n0 nf p3 d1 d2 hpI hp0
      go_wp2_with fail
      go_loopg [7, 8] n (fun gk ff ii wr => ∃ i : Nat, i ≤ n ∧ gk = n - i ∧ ii = .int .i64 (i : Int) ∧ ff = .bool (decide (i0 < i)) ∧ InW w #[.int .i64 (J : Int), .int .i64 (K : Int), .int .i64 (D : Int), .slice (some ⟨gs, 0, none⟩) n caps] (Hx.doneL (l.take (k + 1))) wr)
      case atStart => exact ⟨0, Nat.zero_le _, rfl, rfl, rfl, unhide HIN3⟩
      case round =>
        clear HIN3
        obtain ⟨i, hi, rfl, rfl, rfl, hin⟩ := hrel
        have p3 : wr.cell? ⟨w.heap.size, 3, none⟩ = some (.slice (some ⟨gs, 0, none⟩) n caps) := blk_cell hin.pb 3
        have HIN4 := hide hin
        clear hin
        by_cases hlt2 : i < n
        · have hlt2I : (i : Int) < (n : Int) := by omega
          obtain ⟨y, hy⟩ : ∃ y, L[i]? = some y := ⟨L[i]'(by rw [← unhide HNL]; exact hlt2), List.getElem?_eq_getElem _⟩
          have cx : ∀ t, t < 7 → wr.cell? ⟨gs, i * 7 + t, none⟩ = (kstCells y)[t]? := fun t h => by
            rw [(unhide HIN4).be.cell (p := ⟨gs, i * 7 + t, none⟩) hgs]; exact own_at kstCells 7 (fun _ => rfl) (unhide HO) rfl i y hy t h
          have x0 : wr.cell? ⟨gs, i * 7, none⟩ = some (.int .i64 (y.pl : Int)) := cx 0 (by omega)
          have x1 : wr.cell? ⟨gs, i * 7 + 1, none⟩ = some (.int .i64 (y.no : Int)) := cx 1 (by omega)
          have x2 : wr.cell? ⟨gs, i * 7 + 2, none⟩ = some (.int .i64 (y.x.lo : Int)) := cx 2 (by omega)
          have x3 : wr.cell? ⟨gs, i * 7 + 3, none⟩ = some (.int .i64 (y.x.hi : Int)) := cx 3 (by omega)
          have x4 : wr.cell? ⟨gs, i * 7 + 4, none⟩ = some (.bool y.x.rest) := cx 4 (by omega)
          have x5 : wr.cell? ⟨gs, i * 7 + 5, none⟩ = some (.int .i64 (y.x.mn : Int)) := cx 5 (by omega)
          have x6 : wr.cell? ⟨gs, i * 7 + 6, none⟩ = some (.int .i64 (y.x.mx : Int)) := cx 6 (by omega)
          have HYI : Hid (y.pl = z.pl → y.no = z.no → i = i0) := fun g1 g2 => by
            obtain ⟨hy0, s1, s2, _⟩ := unhide HS
            exact (unhide HH).un i i0 y y0 hy hy0 (by rw [g1, s1]) (by rw [g2, s2])
          have HYE : Hid (i = i0 → y.pl = z.pl ∧ y.no = z.no ∧ y.x.lo = z.lo ∧ y.x.hi = z.hi ∧ y.x.mn = z.mn ∧ y.x.mx = z.mx ∧ y.x.rest = decide (0 ≤ z.out)) := fun g => by
            obtain ⟨hy0, s1, s2, s3, s4, s5, s6, s7⟩ := unhide HS
            rw [← g, hy] at hy0
            cases hy0
            exact ⟨s1, s2, s3, s4, s5, s6, s7⟩
          clear cx hy
          go_upto_region 13 with fail
          have HX := hide (bN #[.int .i64 (y.pl : Int), .int .i64 (y.no : Int), .int .i64 (y.x.lo : Int), .int .i64 (y.x.hi : Int), .bool y.x.rest, .int .i64 (y.x.mn : Int), .int .i64 (y.x.mx : Int)] 39 (w := wr) rfl)
          have HIN5 := hide ((unhide HIN4).alloc (.cells #[.int .i64 (y.pl : Int), .int .i64 (y.no : Int), .int .i64 (y.x.lo : Int), .int .i64 (y.x.hi : Int), .bool y.x.rest, .int .i64 (y.x.mn : Int), .int .i64 (y.x.mx : Int)] 39))
          obtain ⟨tb, htb⟩ : ∃ tb, tb = wr.heap.size := ⟨_, rfl⟩
          rw [← htb] at HX ⊢
          clear HIN4 x0 x1 x2 x3 x4 x5 x6 htb p3
          generalize wr.alloc (.cells #[.int .i64 (y.pl : Int), .int .i64 (y.no : Int), .int .i64 (y.x.lo : Int), .int .i64 (y.x.hi : Int), .bool y.x.rest, .int .i64 (y.x.mn : Int), .int .i64 (y.x.mx : Int)] 39) = wx at HX HIN5 ⊢
          have e0 : wx.cell? ⟨ge, k * 9, none⟩ = some (.int .i64 (z.pl : Int)) := unhide HCE wx (unhide HIN5).be 0 (by omega)
          have e1 : wx.cell? ⟨ge, k * 9 + 1, none⟩ = some (.int .i64 (z.no : Int)) := unhide HCE wx (unhide HIN5).be 1 (by omega)
          have z0 : wx.cell? ⟨tb, 0, none⟩ = some (.int .i64 (y.pl : Int)) := blk_cell (unhide HX) 0
          have z1 : wx.cell? ⟨tb, 1, none⟩ = some (.int .i64 (y.no : Int)) := blk_cell (unhide HX) 1
          by_cases hii : i = i0
          · obtain ⟨s1, s2, s3, s4, s5, s6, s7⟩ := unhide HYE hii
            rw [s1] at z0
            rw [s2] at z1
            have z2 : wx.cell? ⟨tb, 2, none⟩ = some (.int .i64 (z.lo : Int)) := by rw [← s3]; exact blk_cell (unhide HX) 2
            have z3 : wx.cell? ⟨tb, 3, none⟩ = some (.int .i64 (z.hi : Int)) := by rw [← s4]; exact blk_cell (unhide HX) 3
            have z4 : wx.cell? ⟨tb, 4, none⟩ = some (.bool (decide (0 ≤ z.out))) := by rw [← s7]; exact blk_cell (unhide HX) 4
            have z5 : wx.cell? ⟨tb, 5, none⟩ = some (.int .i64 (z.mn : Int)) := by rw [← s5]; exact blk_cell (unhide HX) 5
            have z6 : wx.cell? ⟨tb, 6, none⟩ = some (.int .i64 (z.mx : Int)) := by rw [← s6]; exact blk_cell (unhide HX) 6
            have e3 : wx.cell? ⟨ge, k * 9 + 3, none⟩ = some (.int .i64 (z.lo : Int)) := unhide HCE wx (unhide HIN5).be 3 (by omega)
            have e4 : wx.cell? ⟨ge, k * 9 + 4, none⟩ = some (.int .i64 (z.hi : Int)) := unhide HCE wx (unhide HIN5).be 4 (by omega)
            have e5 : wx.cell? ⟨ge, k * 9 + 5, none⟩ = some (.int .i64 z.out) := unhide HCE wx (unhide HIN5).be 5 (by omega)
            have e6 : wx.cell? ⟨ge, k * 9 + 6, none⟩ = some (.int .i64 (z.mn : Int)) := unhide HCE wx (unhide HIN5).be 6 (by omega)
            have e7 : wx.cell? ⟨ge, k * 9 + 7, none⟩ = some (.int .i64 (z.mx : Int)) := unhide HCE wx (unhide HIN5).be 7 (by omega)
            have HII := hide hii
            clear s1 s2 s3 s4 s5 s6 s7 HX HYE HYI hii
            by_cases hout : 0 ≤ z.out
            all_goals
              go_quiet (fail)
              go_wp2_with fail
              go_quiet (fail)
              go_wp2_with fail
              go_roundg (n - (i + 1))
              case measure => omega
              case rel => exact ⟨i + 1, by omega, rfl, by go_num, by have := unhide HII; simp; omega, (unhide HIN5).drewN _⟩
          · have hdd : decide (i0 < i + 1) = decide (i0 < i) := by rw [Bool.eq_iff_iff, decide_eq_true_eq, decide_eq_true_eq]; omega
            have HDD := hide hdd
            by_cases hpe : y.pl = z.pl
            · have hne : ¬ y.no = z.no := fun g => hii (unhide HYI hpe g)
              have hneI : ((y.no : Int) == (z.no : Int)) = false := by rw [beq_eq_false_iff_ne]; omega
              rw [hpe] at z0
              clear hdd hpe hne hii HYE HYI
              go_quiet (fail)
              go_wp2_with fail
              go_roundg (n - (i + 1))
              case measure => omega
              case rel => exact ⟨i + 1, by omega, rfl, by go_num, by rw [unhide HDD], (unhide HIN5).drewN _⟩
            · have hneI : ((y.pl : Int) == (z.pl : Int)) = false := by rw [beq_eq_false_iff_ne]; omega
              clear hdd hpe hii HYE HYI
              go_quiet (fail)
              go_wp2_with fail
              go_roundg (n - (i + 1))
              case measure => omega
              case rel => exact ⟨i + 1, by omega, rfl, by go_num, by rw [unhide HDD], (unhide HIN5).drewN _⟩
        · have hlt2I : ¬ (i : Int) < (n : Int) := by omega
          have hlt0 : i0 < i := by
            have := (List.getElem?_eq_some_iff.1 (unhide HS).1).1
            have := unhide HNL
            omega
          rw [decide_eq_true hlt0]
          go_wp2_with fail
          go_roundg (n - (k + 1))
          case measure => omega
          case rel => exact ⟨k + 1, by omega, rfl, by go_num, unhide HIN4⟩
    · have hltI : ¬ (k : Int) < (n : Int) := by omega
      go_wp2_with fail
      go_returns
      exact ⟨rfl, (unhide HIN).be⟩
end Go.Proofs.YtppcnlkhdgmaiaaDoor
