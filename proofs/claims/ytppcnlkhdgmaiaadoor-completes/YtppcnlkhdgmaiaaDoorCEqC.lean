/- The plain mathematics of the two ways to the earliest times, first part: the document's table of numbers, in which a great negative number stands for no way, is the table of ways. The plain mathematics of an order: every step stands in it once, and behind the step that is ahead of it on its plate. No program is named here. The plain mathematics of the two ways to the earliest times, second part: the program's rounds over the limits of an order and the document's table of all pairs come to the same times, or both to none. No program is named here. -/
import Derived.Test.YtppcnlkhdgmaiaaDoorCTmB
import Derived.Test.YtppcnlkhdgmaiaaDoorCPt
import Derived.Test.YtppcnlkhdgmaiaaDoorCRrB
namespace Go.Proofs.YtppcnlkhdgmaiaaDoor
namespace Hx

/-- A table of numbers as a table of ways. -/
def encM (M : Nat → Nat → Int) : Nat → Nat → Option Int := fun a b => if no < M a b then some (M a b) else none
/-- Each entry is none, or not far below nothing. -/
def LowI (M : Nat → Nat → Int) (B : Int) : Prop := ∀ a b, M a b = no ∨ -B ≤ M a b
theorem relI_low {M : Nat → Nat → Int} {B : Int} (hB : 0 ≤ B) (h : LowI M B) (k : Nat) : LowI (relI M k) (2 * B) := by
  intro a b
  have h1 := h a b
  have h2 := h a k
  have h3 := h k b
  unfold relI
  split
  · rename_i g
    right
    omega
  · omega
theorem fwI_low {M : Nat → Nat → Int} (h : LowI M 4000) : ∀ k, LowI (fwI M k) (4000 * 2 ^ k)
  | 0 => by simpa [fwI] using h
  | k + 1 => by
    have h0 : (0 : Int) < 2 ^ k := Int.pow_pos (by omega)
    have := relI_low (B := 4000 * 2 ^ k) (by omega) (fwI_low h k) k
    rw [fwI, Int.pow_succ]
    rw [show (4000 : Int) * (2 ^ k * 2) = 2 * (4000 * 2 ^ k) by omega]
    exact this
theorem enc_three {N x y z : Int} (hs : N < y → N < z → N < y + z) :
    (if N < (if N < y ∧ N < z ∧ x < y + z then y + z else x) then some (if N < y ∧ N < z ∧ x < y + z then y + z else x) else none) = omax (if N < x then some x else none) (oadd (if N < y then some y else none) (if N < z then some z else none)) := by
  by_cases c1 : N < y
  · by_cases c2 : N < z
    · have c5 := hs c1 c2
      by_cases c3 : x < y + z
      · have e : (if N < y ∧ N < z ∧ x < y + z then y + z else x) = y + z := if_pos ⟨c1, c2, c3⟩
        rw [e, if_pos c5, if_pos c1, if_pos c2]
        by_cases c4 : N < x
        · rw [if_pos c4]; simp [oadd, omax, c3]
        · rw [if_neg c4]; simp [oadd, omax]
      · have e : (if N < y ∧ N < z ∧ x < y + z then y + z else x) = x := if_neg (fun g => c3 g.2.2)
        rw [e, if_pos c1, if_pos c2, if_pos (by omega)]
        simp [oadd, omax, c3]
    · have e : (if N < y ∧ N < z ∧ x < y + z then y + z else x) = x := if_neg (fun g => c2 g.2.1)
      rw [e, if_pos c1, if_neg c2]
      cases (if N < x then some x else none) <;> simp [oadd, omax]
  · have e : (if N < y ∧ N < z ∧ x < y + z then y + z else x) = x := if_neg (fun g => c1 g.1)
    rw [e, if_neg c1]
    cases (if N < x then some x else none) <;> simp [oadd, omax]
theorem enc_relI {M : Nat → Nat → Int} {B : Int} (hB : B ≤ 100000000) (h : LowI M B) (k : Nat) : encM (relI M k) = relax (encM M) k := by
  funext a b
  have h2 := h a k
  have h3 := h k b
  have hno : no = -1099511627776 := rfl
  exact enc_three (N := no) (x := M a b) (y := M a k) (z := M k b) (fun g1 g2 => by omega)
theorem pow_small {k : Nat} (hk : k ≤ 10) : (4000 : Int) * 2 ^ k ≤ 100000000 := by
  have h2 : (2 : Int) ^ k ≤ 2 ^ 10 := by
    have : (2 : Nat) ^ k ≤ 2 ^ 10 := Nat.pow_le_pow_right (by omega) hk
    exact_mod_cast this
  have h3 : (2 : Int) ^ 10 = 1024 := by decide
  omega
theorem enc_fwI {M : Nat → Nat → Int} (h : LowI M 4000) : ∀ k, k ≤ 10 → encM (fwI M k) = fw (encM M) k
  | 0, _ => rfl
  | k + 1, hk => by
    rw [fwI, fw, ← enc_fwI h k (by omega)]
    exact enc_relI (pow_small (by omega)) (fwI_low h k) k

/-- Numbers that keep the table of numbers. -/
def KeepsI (M : Nat → Nat → Int) (S : Nat → Int) : Prop := ∀ a b, no < M a b → S a + M a b ≤ S b
theorem keeps_enc {M : Nat → Nat → Int} {S : Nat → Int} : KeepsI M S ↔ Keeps (encM M) S := by
  refine ⟨fun h a b v hv => ?_, fun h a b hn => ?_⟩
  · unfold encM at hv
    split at hv
    · rename_i g
      cases hv
      exact h a b g
    · cases hv
  · refine h a b (M a b) ?_
    unfold encM
    rw [if_pos hn]

/-- What Times says where it answers: its times keep the table, and are the least. -/
theorem times_keep {M : Nat → Nat → Int} {n : Nat} (hn : n ≤ 9) (hl : LowI M 4000) (hd : ∀ c, M c c = 0) (h0 : ∀ j, j < n → M n j = 0) (hok : ∀ k i, k < n + 1 → i < n + 1 → fwI M (k + 1) i i ≤ 0) :
    (∀ a b, a < n + 1 → b < n + 1 → no < M a b → fwI M (n + 1) n a + M a b ≤ fwI M (n + 1) n b) ∧ fwI M (n + 1) n n = 0 ∧ (∀ j, j < n → 0 ≤ fwI M (n + 1) n j) ∧ ∀ S, KeepsI M S → ∀ j, j < n + 1 → S n + fwI M (n + 1) n j ≤ S j := by
  have hno : no = -1099511627776 := rfl
  have hdk : ∀ k c, k ≤ n + 1 → c < n + 1 → fwI M k c c = 0 := fun k c hk hc => by
    have h1 := fwI_ge M k c c
    rw [hd c] at h1
    cases k with
    | zero => exact hd c
    | succ k =>
      have := hok k c (by omega) hc
      omega
  have hsome : ∀ j, j < n + 1 → fw (encM M) (n + 1) n j = some (fwI M (n + 1) n j) := fun j hj => by
    rw [← enc_fwI hl (n + 1) (by omega)]
    unfold encM
    have h1 := fwI_ge M (n + 1) n j
    have h2 : M n j = 0 := by
      by_cases e : j = n
      · rw [e]; exact hd n
      · exact h0 j (by omega)
    rw [if_pos (by omega)]
  have hdiag : ∀ c, c < n + 1 → fw (encM M) c c c = some 0 := fun c hc => by
    rw [← enc_fwI hl c (by omega)]
    unfold encM
    rw [hdk c c (by omega) hc, if_pos (by omega)]
  refine ⟨fun a b ha hb hv => ?_, hdk (n + 1) n (by omega) (by omega), fun j hj => ?_, fun S hS j hj => ?_⟩
  · refine fw_times (M := encM M) (n := n + 1) (z := n) (t := fun j => fwI M (n + 1) n j) hdiag hsome a b (M a b) ha hb ?_
    unfold encM
    rw [if_pos hv]
  · have h1 := fwI_ge M (n + 1) n j
    rw [h0 j hj] at h1
    exact h1
  · exact fw_least (keeps_enc.1 hS) (hsome j hj)

theorem relI_keeps {M : Nat → Nat → Int} {S : Nat → Int} (h : KeepsI M S) (k : Nat) : KeepsI (relI M k) S := by
  intro a b hv
  unfold relI at hv ⊢
  split
  · rename_i g
    have h1 := h a k g.1
    have h2 := h k b g.2.1
    omega
  · rename_i g
    rw [if_neg g] at hv
    exact h a b hv
theorem fwI_keeps {M : Nat → Nat → Int} {S : Nat → Int} (h : KeepsI M S) : ∀ k, KeepsI (fwI M k) S
  | 0 => h
  | k + 1 => relI_keeps (fwI_keeps h k) k
/-- Where there are numbers that keep the table, no way round is longer than nothing. -/
theorem keeps_ok {M : Nat → Nat → Int} {S : Nat → Int} (h : KeepsI M S) (k i : Nat) : fwI M k i i ≤ 0 := by
  have hno : no = -1099511627776 := rfl
  by_cases c : no < fwI M k i i
  · have := fwI_keeps h k i i c
    omega
  · omega

end Hx
end Go.Proofs.YtppcnlkhdgmaiaaDoor
namespace Go.Proofs.YtppcnlkhdgmaiaaDoor
namespace Hx

theorem snoc_ind {α : Type} {P : List α → Prop} (h0 : P []) (h1 : ∀ l i, P l → P (l ++ [i])) : ∀ l, P l := by
  have key : ∀ n (l : List α), l.length = n → P l := by
    intro n
    induction n with
    | zero => intro l hl; rw [List.length_eq_zero_iff.1 hl]; exact h0
    | succ n ih =>
      intro l hl
      have hne : l ≠ [] := by intro e; rw [e] at hl; cases hl
      rw [← List.dropLast_concat_getLast hne]
      exact h1 _ _ (ih _ (by rw [List.length_dropLast]; omega))
  exact fun l => key _ l rfl
theorem off_inj {ps : List (List Stp)} {p n p' n' : Nat} (hn : n < lenP ps p) (hp : p < ps.length) (hn' : n' < lenP ps p') (hp' : p' < ps.length) (h : offP ps p + n = offP ps p' + n') : p = p' ∧ n = n' := by
  have hq : ps[p]? = some (ps.getD p []) := by rw [List.getD_eq_getElem?_getD, List.getElem?_eq_getElem hp]; rfl
  have hq' : ps[p']? = some (ps.getD p' []) := by rw [List.getD_eq_getElem?_getD, List.getElem?_eq_getElem hp']; rfl
  have h1 := labs_at hq (List.getElem?_eq_getElem hn)
  have h2 := labs_at hq' (List.getElem?_eq_getElem hn')
  rw [h, h2] at h1
  cases h1
  exact ⟨rfl, rfl⟩

/-- What stands in a list that fits. -/
structure Vp (ps : List (List Stp)) (l : List Nat) (nx : Nat → Nat) : Prop where
  le : ∀ p, p < ps.length → nx p ≤ lenP ps p
  of : ∀ i, i ∈ l → ∃ p no, i = offP ps p + no ∧ no < nx p ∧ p < ps.length
  has : ∀ p no, p < ps.length → no < nx p → offP ps p + no ∈ l
  nd : l.Nodup
  last : ∀ p, p < ps.length → 0 < nx p → l[lastIx (l.map (turnOfIdx ps)) l.length p]? = some (offP ps p + (nx p - 1))

theorem Vp.start (ps : List (List Stp)) : Vp ps [] (fun _ => 0) :=
  ⟨fun _ _ => Nat.zero_le _, fun _ h => (by cases h), fun _ _ _ h => absurd h (Nat.not_lt_zero _), List.nodup_nil, fun _ _ h => absurd h (Nat.not_lt_zero _)⟩
theorem lastIx_take (o : List Trn) (p : Nat) (x : List Trn) : ∀ i, i ≤ o.length → lastIx (o ++ x) i p = lastIx o i p
  | 0, _ => rfl
  | i + 1, h => by
    rw [lastIx, lastIx, List.getElem?_append_left (by omega), lastIx_take o p x i (by omega)]

theorem turn_pl {ps : List (List Stp)} {p n : Nat} {q : List Stp} {x : Stp} (hq : ps[p]? = some q) (hx : q[n]? = some x) : turnOfIdx ps (offP ps p + n) = ⟨x, p, n, restAfter (labs ps) (offP ps p + n)⟩ := by
  unfold turnOfIdx
  rw [labs_at hq hx]

theorem Vp.step {ps : List (List Stp)} {l : List Nat} {nx : Nat → Nat} (h : Vp ps l nx) {p : Nat} {q : List Stp} {x : Stp} (hq : ps[p]? = some q) (hx : q[nx p]? = some x) : Vp ps (l ++ [offP ps p + nx p]) (bump nx p) := by
  have hp := getElem?_lt hq
  have hn := getElem?_lt hx
  have hlen := lenP_eq hq
  have hbp : bump nx p p = nx p + 1 := by simp [bump]
  have hbo : ∀ a, a ≠ p → bump nx p a = nx a := fun a e => by simp [bump, e]
  refine ⟨fun a ha => ?_, fun i hi => ?_, fun a no ha hno => ?_, ?_, fun a ha h0 => ?_⟩
  · by_cases e : a = p
    · subst e; rw [hbp]; omega
    · rw [hbo a e]; exact h.le a ha
  · rcases List.mem_append.1 hi with hi | hi
    · obtain ⟨a, no, e, h1, h2⟩ := h.of i hi
      refine ⟨a, no, e, ?_, h2⟩
      by_cases e2 : a = p
      · subst e2; rw [hbp]; omega
      · rw [hbo a e2]; exact h1
    · rw [List.mem_singleton.1 hi]
      exact ⟨p, nx p, rfl, by rw [hbp]; omega, hp⟩
  · by_cases e : a = p
    · subst e
      rw [hbp] at hno
      by_cases e2 : no = nx a
      · subst e2; simp
      · exact List.mem_append.2 (Or.inl (h.has a no ha (by omega)))
    · rw [hbo a e] at hno
      exact List.mem_append.2 (Or.inl (h.has a no ha hno))
  · rw [List.nodup_append]
    refine ⟨h.nd, by simp, fun i hi j hj e => ?_⟩
    rw [List.mem_singleton.1 hj] at e
    obtain ⟨a, no, e1, h1, h2⟩ := h.of i hi
    have hno : no < lenP ps a := Nat.lt_of_lt_of_le h1 (h.le a h2)
    obtain ⟨ea, en⟩ := off_inj hno h2 (by omega : nx p < lenP ps p) hp (by rw [← e1]; exact e)
    subst ea
    omega
  · have hl : (l ++ [offP ps p + nx p]).length = l.length + 1 := by simp
    rw [hl, List.map_append, List.map_cons, List.map_nil]
    have hi : (l.map (turnOfIdx ps) ++ [turnOfIdx ps (offP ps p + nx p)])[l.length]? = some (turnOfIdx ps (offP ps p + nx p)) := by
      rw [List.getElem?_append_right (by simp)]; simp
    rw [lastIx_step hi, turn_pl hq hx]
    simp only
    by_cases e : a = p
    · subst e
      rw [if_pos rfl, hbp, List.getElem?_append_right (Nat.le_refl _)]
      simp
    · rw [if_neg e, hbo a e, lastIx_take _ _ _ _ (by simp)]
      rw [hbo a e] at h0
      have h1 := h.last a ha h0
      have h2 := getElem?_lt h1
      rw [List.getElem?_append_left h2]
      exact h1

/-- A step that fits is the next of its plate. -/
theorem fit_next {K : Nat} {ps : List (List Stp)} (hf : Fine ps) {r : Int} {nx : Nat → Nat} {i : Nat} {st : Int × (Nat → Nat)} (h : fitStep K (labs ps) r nx i = some st) : ∃ p q x, ps[p]? = some q ∧ q[nx p]? = some x ∧ i = offP ps p + nx p ∧ st.2 = bump nx p := by
  cases hL : (labs ps)[i]? with
  | none => simp [fitStep, hL] at h
  | some y =>
    obtain ⟨p, n, q, x, hq, hx, rfl⟩ : ∃ p n q x, ps[p]? = some q ∧ q[n]? = some x ∧ i = offP ps p + n := labs_inv (getElem?_lt hL)
    rw [fitStep_at hf hq hx] at h
    by_cases e : n = nx p
    · rw [if_pos e] at h
      by_cases hk : r + moreR ⟨x, p, n, begB q n⟩ ≤ (K : Int)
      · rw [if_pos hk] at h
        subst e
        cases h
        exact ⟨p, q, x, hq, hx, rfl, rfl⟩
      · rw [if_neg hk] at h; cases h
    · rw [if_neg e] at h; cases h

theorem Vp.of_end {K : Nat} {ps : List (List Stp)} (hf : Fine ps) : ∀ (l : List Nat) (r : Int) (nx : Nat → Nat), endS K (labs ps) l 0 (fun _ => 0) = some (r, nx) → Vp ps l nx := by
  refine snoc_ind ?_ ?_
  · intro r nx h; simp [endS] at h; obtain ⟨_, rfl⟩ := h; exact Vp.start ps
  · intro l i ih r nx h
    rw [endS_snoc] at h
    cases he : endS K (labs ps) l 0 (fun _ => 0) with
    | none => rw [he] at h; cases h
    | some st =>
      rw [he] at h
      simp only [Option.bind_some] at h
      obtain ⟨p, q, x, hq, hx, rfl, e⟩ := fit_next hf h
      simp only at e
      subst e
      exact (ih st.1 st.2 he).step hq hx
theorem end_take {K : Nat} {L : List Lst} (o : List Nat) (h : (endS K L o 0 (fun _ => 0)).isSome = true) : ∀ k, (endS K L (o.take k) 0 (fun _ => 0)).isSome = true := by
  have key : ∀ (l : List Nat) (i : Nat), (endS K L (l ++ [i]) 0 (fun _ => 0)).isSome = true → (endS K L l 0 (fun _ => 0)).isSome = true := fun l i h => by
    rw [endS_snoc] at h
    cases he : endS K L l 0 (fun _ => 0) with
    | none => rw [he] at h; cases h
    | some _ => rfl
  have key2 : ∀ (b a : List Nat), (endS K L (a ++ b) 0 (fun _ => 0)).isSome = true → (endS K L a 0 (fun _ => 0)).isSome = true := by
    refine snoc_ind ?_ ?_
    · intro a h; simpa using h
    · intro b i ih a h; exact ih a (key (a ++ b) i (by rw [List.append_assoc]; exact h))
  intro k
  exact key2 (o.drop k) (o.take k) (by rw [List.take_append_drop]; exact h)
theorem allO_end {K : Nat} {L : List Lst} : ∀ (d : Nat) (l o : List Nat), (endS K L l 0 (fun _ => 0)).isSome = true → o ∈ allO K L d l → (endS K L o 0 (fun _ => 0)).isSome = true
  | 0, l, o, h, ho => by rw [allO, List.mem_singleton] at ho; rw [ho]; exact h
  | d + 1, l, o, _, ho => by
    rw [allO, List.mem_flatMap] at ho
    obtain ⟨i, _, ho⟩ := ho
    split at ho
    · rename_i hfit
      rw [fitsF_endS] at hfit
      exact allO_end d _ o hfit ho
    · cases ho

/-- What is known of an order. -/
structure Ord (ps : List (List Stp)) (o : List Nat) : Prop where
  len : o.length = (labs ps).length
  lt : ∀ i ∈ o, i < (labs ps).length
  nd : o.Nodup
  all : ∀ i, i < (labs ps).length → i ∈ o
  prev : ∀ (k i : Nat) (y : Lst), o[k]? = some i → (labs ps)[i]? = some y → y.x.rest = true → ∃ a, o[lastIx (o.map (turnOfIdx ps)) k y.pl]? = some a ∧ a + 1 = i
theorem order_is {K : Nat} {ps : List (List Stp)} (hf : Fine ps) {o : List Nat} (h : o ∈ allO K (labs ps) (labs ps).length []) : Ord ps o := by
  obtain ⟨h1, h2⟩ := allO_form K (labs ps) _ [] o h
  have hend := allO_end _ _ o (by rfl) h
  obtain ⟨⟨r, nx⟩, he⟩ := Option.isSome_iff_exists.1 hend
  have hv := Vp.of_end hf o r nx he
  have hs := Sofar.of_end hf o [] 0 (fun _ => 0) r nx (Sofar.start K hf) he
  have hlen : o.length = (labs ps).length := by rw [h1]; simp
  have hall : ∀ p, p < ps.length → (nx p : Int) = (lenP ps p : Int) := by
    refine sumR_eq_all ps.length (fun p hp => by have := hv.le p hp; omega) ?_
    have hc := hs.cnt
    rw [List.nil_append] at hc
    rw [hc, flat_sum ps ps.length (Nat.le_refl _), offP_end, hlen]
  refine ⟨hlen, fun i hi => ?_, hv.nd, fun i hi => ?_, fun k i y hk hy hr => ?_⟩
  · rcases h2 i hi with g | g
    · cases g
    · exact g
  · obtain ⟨p, n, q, x, hq, hx, rfl⟩ := labs_inv hi
    have hp := getElem?_lt hq
    have hn := getElem?_lt hx
    refine hv.has p n hp ?_
    have := hall p hp
    rw [lenP_eq hq] at this
    omega
  · have hkl := getElem?_lt hk
    have ht1 := end_take o hend k
    obtain ⟨⟨r1, nx1⟩, he1⟩ := Option.isSome_iff_exists.1 ht1
    have hv1 := Vp.of_end hf _ r1 nx1 he1
    have ht2 := end_take o hend (k + 1)
    rw [List.take_add_one, hk, Option.toList_some, endS_snoc, he1] at ht2
    simp only [Option.bind_some] at ht2
    obtain ⟨st, hst⟩ := Option.isSome_iff_exists.1 ht2
    obtain ⟨p, q, x, hq, hx, rfl, _⟩ := fit_next hf hst
    rw [labs_at hq hx] at hy
    cases hy
    simp only at hr ⊢
    have hp := getElem?_lt hq
    have hpos : 0 < nx1 p := by
      rcases Nat.eq_zero_or_pos (nx1 p) with e | e
      · obtain ⟨x0, r0, e0, hx0⟩ := hf p q hq
        rw [e, e0] at hx
        simp at hx
        subst hx
        rw [hx0] at hr; cases hr
      · exact e
    have hl := hv1.last p hp hpos
    have htl : (o.take k).length = k := by rw [List.length_take]; omega
    rw [htl] at hl
    refine ⟨offP ps p + (nx1 p - 1), ?_, by omega⟩
    have e1 : lastIx (o.map (turnOfIdx ps)) k p = lastIx ((o.take k).map (turnOfIdx ps)) k p := by
      have e2 : o.map (turnOfIdx ps) = (o.take k).map (turnOfIdx ps) ++ (o.drop k).map (turnOfIdx ps) := by rw [← List.map_append, List.take_append_drop]
      rw [e2]
      exact lastIx_take _ _ _ _ (by simp; omega)
    rw [e1]
    have hlt := getElem?_lt hl
    rw [List.getElem?_take] at hl
    split at hl
    · exact hl
    · cases hl

end Hx
end Go.Proofs.YtppcnlkhdgmaiaaDoor
namespace Go.Proofs.YtppcnlkhdgmaiaaDoor
namespace Hx

/-- A table that holds these bounds, and no others. -/
structure Holds (M : Nat → Nat → Int) (C : Nat → Nat → Int → Prop) : Prop where
  snd : ∀ a b, M a b = no ∨ C a b (M a b)
  cpl : ∀ a b v, C a b v → v ≤ M a b
theorem Holds.upd {M : Nat → Nat → Int} {C : Nat → Nat → Int → Prop} (h : Holds M C) {i j : Nat} {v : Int} (hv : M i j ≤ v) : Holds (updM M i j v) (fun a b x => C a b x ∨ (a = i ∧ b = j ∧ x = v)) := by
  refine ⟨fun a b => ?_, fun a b x hx => ?_⟩
  · unfold updM
    by_cases e : a = i ∧ b = j
    · rw [if_pos e]; exact Or.inr (Or.inr ⟨e.1, e.2, rfl⟩)
    · rw [if_neg e]; exact (h.snd a b).imp id Or.inl
  · unfold updM
    by_cases e : a = i ∧ b = j
    · rw [if_pos e]
      rcases hx with hx | ⟨_, _, rfl⟩
      · obtain ⟨rfl, rfl⟩ := e
        have := h.cpl _ _ _ hx
        omega
      · exact Int.le_refl _
    · rw [if_neg e]
      rcases hx with hx | ⟨rfl, rfl, _⟩
      · exact h.cpl _ _ _ hx
      · exact absurd ⟨rfl, rfl⟩ e
theorem Holds.max {M : Nat → Nat → Int} {C : Nat → Nat → Int → Prop} (h : Holds M C) (i j : Nat) (v : Int) : Holds (maxM M i j v) (fun a b x => C a b x ∨ (a = i ∧ b = j ∧ x = v)) := by
  unfold maxM
  split
  · exact h.upd (by omega)
  · rename_i g
    refine ⟨fun a b => (h.snd a b).imp id Or.inl, fun a b x hx => ?_⟩
    rcases hx with hx | ⟨rfl, rfl, rfl⟩
    · exact h.cpl _ _ _ hx
    · omega
theorem Holds.iff {M : Nat → Nat → Int} {C C' : Nat → Nat → Int → Prop} (h : Holds M C) (he : ∀ a b x, C a b x ↔ C' a b x) : Holds M C' :=
  ⟨fun a b => (h.snd a b).imp id (he _ _ _).1, fun a b x hx => h.cpl a b x ((he _ _ _).2 hx)⟩

/-- The bounds: of the beginning; of the order, the first so many; of the rests, the first so many. -/
def C0 (n : Nat) (a b : Nat) (v : Int) : Prop := (a = b ∧ v = 0) ∨ (a = n ∧ b < n ∧ v = 0)
def C1 (J : Nat) (L : List Lst) (o : List Nat) (q : Nat) (a b : Nat) (v : Int) : Prop := C0 L.length a b v ∨ ∃ k, k < q ∧ a = o.getD k 0 ∧ b = o.getD (k + 1) 0 ∧ v = (J : Int) + hiAt L (o.getD k 0)
def CR (J : Nat) (L : List Lst) (i a b : Nat) (v : Int) : Prop := ∃ x y, L[i]? = some x ∧ L[i - 1]? = some y ∧ x.x.rest = true ∧ ((a = i - 1 ∧ b = i ∧ v = (J : Int) + y.x.hi + x.x.mn) ∨ (a = i ∧ b = i - 1 ∧ v = (J : Int) - y.x.lo - x.x.mx))
def C2 (J : Nat) (L : List Lst) (o : List Nat) (q : Nat) (a b : Nat) (v : Int) : Prop := C1 J L o (L.length - 1) a b v ∨ ∃ i, 1 ≤ i ∧ i ≤ q ∧ CR J L i a b v

theorem holds0 (n : Nat) : Holds (M1 n n) (C0 n) := by
  refine ⟨fun a b => ?_, fun a b v hv => ?_⟩
  · unfold M1 M0
    by_cases e : a = n ∧ b < n
    · rw [if_pos e]; exact Or.inr (Or.inr ⟨e.1, e.2, rfl⟩)
    · rw [if_neg e]
      by_cases e2 : b = a
      · rw [if_pos e2]; exact Or.inr (Or.inl ⟨e2.symm, rfl⟩)
      · rw [if_neg e2]; exact Or.inl rfl
  · unfold M1 M0
    rcases hv with ⟨rfl, rfl⟩ | ⟨rfl, hb, rfl⟩
    · rw [if_neg (by omega), if_pos rfl]; exact Int.le_refl _
    · rw [if_pos ⟨rfl, hb⟩]; exact Int.le_refl _
theorem getD_at {o : List Nat} {k : Nat} (h : k < o.length) : o[k]? = some (o.getD k 0) := by rw [List.getD_eq_getElem?_getD, List.getElem?_eq_getElem h]; rfl
theorem nd_inj {o : List Nat} (h : o.Nodup) {i j : Nat} (hi : i < o.length) (hj : j < o.length) (e : o.getD i 0 = o.getD j 0) : i = j := by
  have h1 := getD_at hi
  have h2 := getD_at hj
  rw [List.getElem?_eq_getElem hi] at h1
  rw [List.getElem?_eq_getElem hj] at h2
  have e3 : o[i] = o[j] := by rw [Option.some.inj h1, Option.some.inj h2, e]
  exact (List.getElem_inj h).1 e3
theorem holds1 {ps : List (List Stp)} {o : List Nat} (ho : Ord ps o) (J : Nat) : ∀ q, q + 1 ≤ (labs ps).length → Holds (chM J (labs ps) o (M1 (labs ps).length (labs ps).length) q) (C1 J (labs ps) o q)
  | 0, _ => (holds0 _).iff fun a b x => ⟨Or.inl, fun h => by
      rcases h with h | ⟨k, hk, _⟩
      · exact h
      · exact absurd hk (Nat.not_lt_zero _)⟩
  | q + 1, hq => by
    have ih := holds1 ho J q (by omega)
    have hlen := ho.len
    have ha : o.getD q 0 < (labs ps).length := ho.lt _ (List.mem_of_getElem? (getD_at (by omega)))
    have hprev : chM J (labs ps) o (M1 (labs ps).length (labs ps).length) q (o.getD q 0) (o.getD (q + 1) 0) = no := by
      rcases ih.snd (o.getD q 0) (o.getD (q + 1) 0) with h | h
      · exact h
      · exfalso
        rcases h with (⟨h, _⟩ | ⟨h, _⟩) | ⟨k, hk, h1, _, _⟩
        · have := nd_inj ho.nd (i := q) (j := q + 1) (by omega) (by omega) h
          omega
        · omega
        · have := nd_inj ho.nd (i := q) (j := k) (by omega) (by omega) h1
          omega
    rw [chM]
    refine (ih.upd (by rw [hprev]; unfold no; omega)).iff fun a b x => ⟨fun h => ?_, fun h => ?_⟩
    · rcases h with (h | ⟨k, hk, h⟩) | h
      · exact Or.inl h
      · exact Or.inr ⟨k, by omega, h⟩
      · exact Or.inr ⟨q, by omega, h⟩
    · rcases h with h | ⟨k, hk, h⟩
      · exact Or.inl (Or.inl h)
      · by_cases e : k = q
        · subst e; exact Or.inr h
        · exact Or.inl (Or.inr ⟨k, by omega, h⟩)
theorem holds_rest {M : Nat → Nat → Int} {C : Nat → Nat → Int → Prop} (h : Holds M C) (J : Nat) (L : List Lst) (i : Nat) : Holds (restM J L M i) (fun a b v => C a b v ∨ CR J L i a b v) := by
  unfold restM
  split
  · rename_i x y hx hy
    split
    · rename_i hr
      refine ((h.max (i - 1) i _).max i (i - 1) _).iff fun a b v => ⟨fun h => ?_, fun h => ?_⟩
      · rcases h with (h | h) | h
        · exact Or.inl h
        · exact Or.inr ⟨x, y, hx, hy, hr, Or.inl h⟩
        · exact Or.inr ⟨x, y, hx, hy, hr, Or.inr h⟩
      · rcases h with h | ⟨x', y', hx', hy', _, h⟩
        · exact Or.inl (Or.inl h)
        · rw [hx] at hx'
          rw [hy] at hy'
          cases hx'
          cases hy'
          rcases h with h | h
          · exact Or.inl (Or.inr h)
          · exact Or.inr h
    · rename_i hr
      refine h.iff fun a b v => ⟨Or.inl, fun g => ?_⟩
      rcases g with g | ⟨x', y', hx', _, hr', _⟩
      · exact g
      · rw [hx] at hx'
        cases hx'
        exact absurd hr' hr
  · rename_i hno
    refine h.iff fun a b v => ⟨Or.inl, fun g => ?_⟩
    rcases g with g | ⟨x', y', hx', hy', _, _⟩
    · exact g
    · exact absurd hy' (hno x' y' hx')
theorem holds2 {ps : List (List Stp)} {o : List Nat} (ho : Ord ps o) (hpos : 0 < (labs ps).length) (J : Nat) : ∀ q, Holds (rsM J (labs ps) (chM J (labs ps) o (M1 (labs ps).length (labs ps).length) ((labs ps).length - 1)) q) (C2 J (labs ps) o q)
  | 0 => (holds1 ho J _ (by omega)).iff fun a b x => ⟨Or.inl, fun h => by
      rcases h with h | ⟨i, h1, h2, _⟩
      · exact h
      · omega⟩
  | q + 1 => by
    rw [rsM]
    refine (holds_rest (holds2 ho hpos J q) J (labs ps) (q + 1)).iff fun a b v => ⟨fun h => ?_, fun h => ?_⟩
    · rcases h with (h | ⟨i, h1, h2, h3⟩) | h
      · exact Or.inl h
      · exact Or.inr ⟨i, h1, by omega, h3⟩
      · exact Or.inr ⟨q + 1, by omega, by omega, h⟩
    · rcases h with h | ⟨i, h1, h2, h3⟩
      · exact Or.inl (Or.inl h)
      · by_cases e : i = q + 1
        · subst e; exact Or.inr h3
        · exact Or.inl (Or.inr ⟨i, h1, by omega, h3⟩)
theorem tab_holds {ps : List (List Stp)} {o : List Nat} (ho : Ord ps o) (hpos : 0 < (labs ps).length) (J : Nat) : Holds (tabM J (labs ps) o) (C2 J (labs ps) o ((labs ps).length - 1)) := holds2 ho hpos J _

def SmL (L : List Lst) : Prop := ∀ y ∈ L, y.x.lo < 1000 ∧ y.x.hi < 1000 ∧ y.x.mn < 1000 ∧ y.x.mx < 1000
theorem hiAt_lt {L : List Lst} (h : SmL L) (i : Nat) : hiAt L i < 1000 := by
  unfold hiAt
  split
  · rename_i y hy; exact (h y (List.mem_of_getElem? hy)).2.1
  · omega
theorem C2_small {J : Nat} (hJ : J < 10) {L : List Lst} (hL : SmL L) {o : List Nat} {q a b : Nat} {v : Int} (h : C2 J L o q a b v) : -4000 ≤ v ∧ v ≤ 4000 := by
  rcases h with ((⟨_, h⟩ | ⟨_, _, h⟩) | ⟨k, _, _, _, h⟩) | ⟨i, _, _, x, y, hx, hy, _, ⟨_, _, h⟩ | ⟨_, _, h⟩⟩
  · omega
  · omega
  · have := hiAt_lt hL (o.getD k 0); omega
  · have h1 := hL x (List.mem_of_getElem? hx)
    have h2 := hL y (List.mem_of_getElem? hy)
    omega
  · have h1 := hL x (List.mem_of_getElem? hx)
    have h2 := hL y (List.mem_of_getElem? hy)
    omega
/-- What Times wants of its table. -/
theorem tab_facts {ps : List (List Stp)} {o : List Nat} (ho : Ord ps o) (hpos : 0 < (labs ps).length) {J : Nat} (hJ : J < 10) (hL : SmL (labs ps)) :
    (∀ c, tabM J (labs ps) o c c = 0) ∧ (∀ a b, no ≤ tabM J (labs ps) o a b ∧ tabM J (labs ps) o a b ≤ 4000) ∧ LowI (tabM J (labs ps) o) 4000 ∧ ∀ j, j < (labs ps).length → tabM J (labs ps) o (labs ps).length j = 0 := by
  have hH := tab_holds ho hpos J
  have hno : no = -1099511627776 := rfl
  have hlen := ho.len
  have hlt : ∀ k, k < (labs ps).length → o.getD k 0 < (labs ps).length := fun k hk => ho.lt _ (List.mem_of_getElem? (getD_at (by omega)))
  refine ⟨fun c => ?_, fun a b => ?_, fun a b => ?_, fun j hj => ?_⟩
  · have h0 := hH.cpl c c 0 (Or.inl (Or.inl (Or.inl ⟨rfl, rfl⟩)))
    rcases hH.snd c c with h | h
    · omega
    · rcases h with ((⟨_, h⟩ | ⟨h1, h2, _⟩) | ⟨k, hk, h1, h2, _⟩) | ⟨i, hi, _, x, y, hx, _, _, ⟨h1, h2, _⟩ | ⟨h1, h2, _⟩⟩
      · exact h
      · omega
      · have := nd_inj ho.nd (i := k) (j := k + 1) (by omega) (by omega) (by rw [← h1, ← h2])
        omega
      · omega
      · omega
  · rcases hH.snd a b with h | h
    · omega
    · have := C2_small hJ hL h; omega
  · rcases hH.snd a b with h | h
    · exact Or.inl h
    · have := C2_small hJ hL h; exact Or.inr (by omega)
  · have h0 := hH.cpl (labs ps).length j 0 (Or.inl (Or.inl (Or.inr ⟨rfl, hj, rfl⟩)))
    rcases hH.snd (labs ps).length j with h | h
    · omega
    · rcases h with ((⟨_, h⟩ | ⟨_, _, h⟩) | ⟨k, hk, h1, _, _⟩) | ⟨i, hi, hi2, x, y, hx, hy, _, ⟨h1, h2, _⟩ | ⟨h1, h2, _⟩⟩
      · exact h
      · exact h
      · have := hlt k (by omega); omega
      · have := getElem?_lt hx; omega
      · have := getElem?_lt hx; omega

/-- Numbers keep the table if they keep every bound. -/
theorem keeps_tab {ps : List (List Stp)} {o : List Nat} (ho : Ord ps o) (hpos : 0 < (labs ps).length) {J : Nat} {S : Nat → Int} (h : ∀ a b v, C2 J (labs ps) o ((labs ps).length - 1) a b v → S a + v ≤ S b) : KeepsI (tabM J (labs ps) o) S := by
  have hH := tab_holds ho hpos J
  intro a b hn
  rcases hH.snd a b with g | g
  · omega
  · exact h a b _ g

end Hx
end Go.Proofs.YtppcnlkhdgmaiaaDoor
