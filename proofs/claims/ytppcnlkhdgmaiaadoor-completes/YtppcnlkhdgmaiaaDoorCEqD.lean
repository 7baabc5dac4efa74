/- The plain mathematics of the two ways to the earliest times, third part: both come to the same. No program is named here. -/
import Derived.Test.YtppcnlkhdgmaiaaDoorCEqC
namespace Go.Proofs.YtppcnlkhdgmaiaaDoor
namespace Hx

theorem turn_at {ps : List (List Stp)} {i : Nat} {y : Lst} (h : (labs ps)[i]? = some y) : turnOfIdx ps i = ⟨y.x, y.pl, y.no, restAfter (labs ps) i⟩ := by
  unfold turnOfIdx
  rw [h]
theorem map_at {ps : List (List Stp)} {o : List Nat} {k i : Nat} (h : o[k]? = some i) : (o.map (turnOfIdx ps))[k]? = some (turnOfIdx ps i) := by rw [List.getElem?_map, h]; rfl

section
variable {ps : List (List Stp)} {o : List Nat} {J : Nat}

/-- What keeps the bounds keeps the limits. -/
theorem lims_of (ho : Ord ps o) {S : Nat → Int} (h0 : S (labs ps).length = 0) (h : ∀ a b v, C2 J (labs ps) o ((labs ps).length - 1) a b v → a ≤ (labs ps).length → b ≤ (labs ps).length → S a + v ≤ S b) :
    KeepsL (labs ps).length (limsOf J (o.map (turnOfIdx ps))) (fun k => S (o.getD k 0)) := by
  have hlen := ho.len
  have hlt : ∀ k, k < (labs ps).length → o.getD k 0 < (labs ps).length := fun k hk => ho.lt _ (List.mem_of_getElem? (getD_at (by omega)))
  refine ⟨fun k hk => ?_, fun l hl => ?_⟩
  · have := h (labs ps).length (o.getD k 0) 0 (Or.inl (Or.inl (Or.inr ⟨rfl, hlt k hk, rfl⟩))) (Nat.le_refl _) (Nat.le_of_lt (hlt k hk))
    rw [h0] at this
    simpa using this
  · obtain ⟨i, t, hi, hl⟩ := limsOf_mem hl
    have hil : i < (labs ps).length := by have := getElem?_lt hi; rw [List.length_map] at this; omega
    have hoi := getD_at (o := o) (k := i) (by omega)
    rw [map_at hoi] at hi
    have hti := Option.some.inj hi
    rcases hl with hl | hl
    · unfold lim1 at hl
      split at hl
      · rename_i hi0
        have hoq := getD_at (o := o) (k := i - 1) (by omega)
        rw [map_at hoq] at hl
        simp only [List.mem_singleton] at hl
        obtain ⟨y, hy⟩ : ∃ y, (labs ps)[o.getD (i - 1) 0]? = some y := ⟨_, List.getElem?_eq_getElem (hlt (i - 1) (by omega))⟩
        rw [turn_at hy] at hl
        subst hl
        simp only
        have e : i - 1 + 1 = i := by omega
        refine h _ _ _ (Or.inl (Or.inr ⟨i - 1, by omega, rfl, by rw [e], ?_⟩)) (Nat.le_of_lt (hlt _ (by omega))) (Nat.le_of_lt (hlt _ hil))
        unfold hiAt
        rw [hy]
      · cases hl
    · unfold lim2 at hl
      split at hl
      · rename_i hr
        obtain ⟨y, hy⟩ : ∃ y, (labs ps)[o.getD i 0]? = some y := ⟨_, List.getElem?_eq_getElem (hlt i hil)⟩
        rw [turn_at hy] at hti
        rw [← hti] at hr hl
        simp only at hr hl
        obtain ⟨a, ha, hai⟩ := ho.prev i _ y hoi hy hr
        have hq := getElem?_lt ha
        have haq : o.getD (lastIx (o.map (turnOfIdx ps)) i y.pl) 0 = a := by rw [List.getD_eq_getElem?_getD, ha]; rfl
        rw [map_at ha] at hl
        have hal : a < (labs ps).length := by have := hlt i hil; omega
        obtain ⟨z, hz⟩ : ∃ z, (labs ps)[a]? = some z := ⟨_, List.getElem?_eq_getElem hal⟩
        rw [turn_at hz] at hl
        simp only [List.mem_cons, List.not_mem_nil, or_false] at hl
        have e1 : o.getD i 0 - 1 = a := by omega
        have hil2 := hlt i hil
        rcases hl with rfl | rfl
        · simp only
          rw [haq]
          refine h a (o.getD i 0) _ (Or.inr ⟨o.getD i 0, by omega, by omega, y, z, hy, by rw [e1]; exact hz, hr, Or.inl ⟨by omega, rfl, rfl⟩⟩) (by omega) (by omega)
        · simp only
          rw [haq]
          have e2 : -((z.x.lo : Int) + y.x.mx - J) = (J : Int) - z.x.lo - y.x.mx := by omega
          rw [e2]
          exact h (o.getD i 0) a _ (Or.inr ⟨o.getD i 0, by omega, by omega, y, z, hy, by rw [e1]; exact hz, hr, Or.inr ⟨rfl, by omega, rfl⟩⟩) (by omega) (by omega)
      · cases hl

/-- What keeps the limits keeps the bounds. -/
theorem bounds_of (ho : Ord ps o) {f : Nat → Int} (h : KeepsL (labs ps).length (limsOf J (o.map (turnOfIdx ps))) f) :
    ∃ S : Nat → Int, S (labs ps).length = 0 ∧ (∀ k, k < (labs ps).length → S (o.getD k 0) = f k) ∧ ∀ a b v, C2 J (labs ps) o ((labs ps).length - 1) a b v → S a + v ≤ S b := by
  have hlen := ho.len
  have hlt : ∀ k, k < (labs ps).length → o.getD k 0 < (labs ps).length := fun k hk => ho.lt _ (List.mem_of_getElem? (getD_at (by omega)))
  have hidx : ∀ a, a < (labs ps).length → ∃ k, k < (labs ps).length ∧ o.getD k 0 = a := fun a ha => by
    obtain ⟨k, hk, e⟩ := List.mem_iff_getElem.1 (ho.all a ha)
    exact ⟨k, by omega, by rw [List.getD_eq_getElem?_getD, List.getElem?_eq_getElem hk]; exact e⟩
  have hS : ∀ k, k < (labs ps).length → (if o.getD k 0 < (labs ps).length then f (o.idxOf (o.getD k 0)) else 0) = f k := fun k hk => by
    rw [if_pos (hlt k hk)]
    have hm : o.getD k 0 ∈ o := List.mem_of_getElem? (getD_at (by omega))
    have h1 : o.idxOf (o.getD k 0) < o.length := List.idxOf_lt_length_of_mem hm
    have h2 : o.getD (o.idxOf (o.getD k 0)) 0 = o.getD k 0 := by
      rw [List.getD_eq_getElem?_getD, List.getElem?_eq_getElem h1]
      exact List.getElem_idxOf h1
    rw [nd_inj ho.nd h1 (by omega) h2]
  refine ⟨fun a => if a < (labs ps).length then f (o.idxOf a) else 0, by simp, hS, fun a b v hC => ?_⟩
  have hmem : ∀ k t l, (o.map (turnOfIdx ps))[k]? = some t → (l ∈ lim1 J (o.map (turnOfIdx ps)) k ∨ l ∈ lim2 J (o.map (turnOfIdx ps)) k t) → f l.fr + l.more ≤ f l.to := fun k t l hk hl => by
    refine h.2 l (List.mem_flatMap.2 ⟨k, List.mem_range.2 (getElem?_lt hk), ?_⟩)
    unfold limAt
    rw [hk]
    exact List.mem_append.2 hl
  rcases hC with ((⟨rfl, rfl⟩ | ⟨rfl, hb, rfl⟩) | ⟨k, hk, rfl, rfl, rfl⟩) | ⟨i, hi1, hi2, x, y, hx, hy, hr, hc⟩
  · simp
  · obtain ⟨k, hk, rfl⟩ := hidx b hb
    have h1 := hS k hk
    show (if (labs ps).length < (labs ps).length then f (o.idxOf (labs ps).length) else 0) + 0 ≤ (if o.getD k 0 < (labs ps).length then f (o.idxOf (o.getD k 0)) else 0)
    rw [h1, if_neg (by omega)]
    have := h.1 k hk
    omega
  · have h1 := hS k (by omega)
    have h2 := hS (k + 1) (by omega)
    simp only at h1 h2 ⊢
    rw [h1, h2]
    have hok := getD_at (o := o) (k := k) (by omega)
    have hok1 := getD_at (o := o) (k := k + 1) (by omega)
    obtain ⟨z, hz⟩ : ∃ z, (labs ps)[o.getD k 0]? = some z := ⟨_, List.getElem?_eq_getElem (hlt k (by omega))⟩
    have := hmem (k + 1) _ ⟨k, k + 1, (J : Int) + z.x.hi⟩ (map_at hok1) (Or.inl (by
      unfold lim1
      rw [if_pos (by omega), show k + 1 - 1 = k by omega, map_at hok, turn_at hz]
      simp))
    simp only at this
    have e : hiAt (labs ps) (o.getD k 0) = z.x.hi := by unfold hiAt; rw [hz]
    rw [e]
    omega
  · have hil := getElem?_lt hx
    obtain ⟨k, hk, rfl⟩ := hidx i hil
    have hok := getD_at (o := o) (k := k) (by omega)
    obtain ⟨a', ha, hai⟩ := ho.prev k _ x hok hx hr
    have hq := getElem?_lt ha
    have haq : o.getD (lastIx (o.map (turnOfIdx ps)) k x.pl) 0 = a' := by rw [List.getD_eq_getElem?_getD, ha]; rfl
    have e1 : o.getD k 0 - 1 = a' := by omega
    rw [e1] at hy hc
    have h1 := hS k hk
    have h2 := hS (lastIx (o.map (turnOfIdx ps)) k x.pl) (by omega)
    rw [haq] at h2
    simp only at h1 h2 ⊢
    have hl2 : lim2 J (o.map (turnOfIdx ps)) k (turnOfIdx ps (o.getD k 0)) = [⟨lastIx (o.map (turnOfIdx ps)) k x.pl, k, (J : Int) + y.x.hi + x.x.mn⟩, ⟨k, lastIx (o.map (turnOfIdx ps)) k x.pl, -((y.x.lo : Int) + x.x.mx - J)⟩] := by
      unfold lim2
      rw [turn_at hx]
      simp only
      rw [if_pos hr, map_at ha, turn_at hy]
    rcases hc with ⟨rfl, rfl, rfl⟩ | ⟨rfl, rfl, rfl⟩
    · rw [h1, h2]
      have := hmem k _ ⟨lastIx (o.map (turnOfIdx ps)) k x.pl, k, (J : Int) + y.x.hi + x.x.mn⟩ (map_at hok) (Or.inr (by rw [hl2]; simp))
      simp only at this
      omega
    · rw [h1, h2]
      have := hmem k _ ⟨k, lastIx (o.map (turnOfIdx ps)) k x.pl, -((y.x.lo : Int) + x.x.mx - J)⟩ (map_at hok) (Or.inr (by rw [hl2]; simp))
      simp only at this
      omega

/-- Where Times answers, its times are the least that keep the limits. -/
theorem times_least (ho : Ord ps o) (hpos : 0 < (labs ps).length) (h9 : (labs ps).length ≤ 9) (hJ : J < 10) (hL : SmL (labs ps)) (hok : ∀ k i, k < (labs ps).length + 1 → i < (labs ps).length + 1 → fwI (tabM J (labs ps) o) (k + 1) i i ≤ 0) :
    LeastL (labs ps).length (limsOf J (o.map (turnOfIdx ps))) (fun k => fwI (tabM J (labs ps) o) ((labs ps).length + 1) (labs ps).length (o.getD k 0)) := by
  obtain ⟨d1, d2, d3, d4⟩ := tab_facts ho hpos hJ hL
  obtain ⟨t1, t2, t3, t4⟩ := times_keep h9 d3 d1 d4 hok
  have hno : no = -1099511627776 := rfl
  have hlen := ho.len
  have hlt : ∀ k, k < (labs ps).length → o.getD k 0 < (labs ps).length := fun k hk => ho.lt _ (List.mem_of_getElem? (getD_at (by omega)))
  refine ⟨lims_of ho t2 (fun a b v hC ha hb => ?_), fun s hs k hk => ?_⟩
  · have h1 := (tab_holds ho hpos J).cpl a b v hC
    have h2 := C2_small hJ hL hC
    have := t1 a b (by omega) (by omega) (by omega)
    omega
  · obtain ⟨S, s1, s2, s3⟩ := bounds_of ho hs
    have := t4 S (keeps_tab ho hpos s3) (o.getD k 0) (by have := hlt k hk; omega)
    rw [s1, s2 k hk] at this
    simpa using this

/-- Both ways come to the same. -/
theorem early_eq (ho : Ord ps o) (hpos : 0 < (labs ps).length) (h9 : (labs ps).length ≤ 9) (hJ : J < 10) (hL : SmL (labs ps)) :
    (∀ f, earlyF J (o.map (turnOfIdx ps)) = some f → (∀ k i, k < (labs ps).length + 1 → i < (labs ps).length + 1 → fwI (tabM J (labs ps) o) (k + 1) i i ≤ 0) ∧ ∀ k, k < (labs ps).length → fwI (tabM J (labs ps) o) ((labs ps).length + 1) (labs ps).length (o.getD k 0) = f k) ∧
    (earlyF J (o.map (turnOfIdx ps)) = none → ∃ k i, k < (labs ps).length + 1 ∧ i < (labs ps).length + 1 ∧ 0 < fwI (tabM J (labs ps) o) (k + 1) i i) := by
  have hlen := ho.len
  have hml : (o.map (turnOfIdx ps)).length = (labs ps).length := by rw [List.length_map]; exact hlen
  have hin := limsOf_in J (o.map (turnOfIdx ps))
  rw [hml] at hin
  refine ⟨fun f hf => ?_, fun hf => ?_⟩
  · have hleast : LeastL (labs ps).length (limsOf J (o.map (turnOfIdx ps))) f := by
      unfold earlyF at hf
      exact roundsF_some hin _ _ _ (fun _ _ => Int.le_refl _) (fun s hs i hi => hs.1 i hi) hf
    obtain ⟨S, s1, s2, s3⟩ := bounds_of ho hleast.1
    have hk := keeps_tab ho hpos s3
    have hok : ∀ k i, k < (labs ps).length + 1 → i < (labs ps).length + 1 → fwI (tabM J (labs ps) o) (k + 1) i i ≤ 0 := fun k i _ _ => keeps_ok hk (k + 1) i
    exact ⟨hok, fun k hk2 => (times_least ho hpos h9 hJ hL hok).unique hleast k hk2⟩
  · refine Classical.byContradiction fun hn => ?_
    have hok : ∀ k i, k < (labs ps).length + 1 → i < (labs ps).length + 1 → fwI (tabM J (labs ps) o) (k + 1) i i ≤ 0 := fun k i hk hi => by
      rcases Int.lt_or_le 0 (fwI (tabM J (labs ps) o) (k + 1) i i) with g | g
      · exact absurd ⟨k, i, hk, hi, g⟩ hn
      · exact g
    unfold earlyF at hf
    rw [hml] at hf
    exact roundsF_none hin hpos hf _ (times_least ho hpos h9 hJ hL hok)
end

end Hx
end Go.Proofs.YtppcnlkhdgmaiaaDoor
