/- The plain mathematics of reading tables and scripts, and of which table is right. No program is named here. -/
import Derived.Test.YtppcnlkhdgmaiaaGreatDoorPure
namespace Go.Proofs.YtppcnlkhdgmaiaaGreatDoor
namespace Hx
-- of RfA
/-- A byte from lo to hi must come. -/
def oneF (s : ByteArray) (lo hi : Nat) (st : St) : Nat × St := if st.bad = true ∨ byteAt s st.pos < lo ∨ hi < byteAt s st.pos then (0, ⟨st.pos, true⟩) else (byteAt s st.pos - lo, ⟨st.pos + 1, false⟩)
theorem oneF_bad {s : ByteArray} {lo hi : Nat} {st : St} (h : st.bad = true) : oneF s lo hi st = (0, ⟨st.pos, true⟩) := by simp [oneF, h]
theorem oneF_no {s : ByteArray} {lo hi : Nat} {st : St} (h : byteAt s st.pos < lo ∨ hi < byteAt s st.pos) : oneF s lo hi st = (0, ⟨st.pos, true⟩) := by simp [oneF, h]
theorem oneF_yes {s : ByteArray} {lo hi : Nat} {st : St} (h : st.bad = false) (h1 : lo ≤ byteAt s st.pos) (h2 : byteAt s st.pos ≤ hi) : oneF s lo hi st = (byteAt s st.pos - lo, ⟨st.pos + 1, false⟩) := by
  have : ¬ (st.bad = true ∨ byteAt s st.pos < lo ∨ hi < byteAt s st.pos) := by simp [h]; omega
  rw [oneF, if_neg this]

-- of RfB
/-- The number, by its first digit. -/
theorem numF_one {s : ByteArray} {most : Nat} {st : St} (hm : 1 ≤ most) :
    ((oneF s 48 57 st).1 = 0 ∧ (0, (oneF s 48 57 st).2) = numF s most st) ∨
    (0 < (oneF s 48 57 st).1 ∧ (oneF s 48 57 st).1 < 10 ∧ (oneF s 48 57 st).2.bad = false ∧ ((digF s (most - 1) (oneF s 48 57 st).2.pos (oneF s 48 57 st).1).1, (⟨(digF s (most - 1) (oneF s 48 57 st).2.pos (oneF s 48 57 st).1).2, false⟩ : St)) = numF s most st) := by
  obtain ⟨pos, bad⟩ := st
  cases bad
  · by_cases h0 : byteAt s pos = 48
    · left
      rw [oneF_yes rfl (by simp only; omega) (by simp only; omega), numF_zero rfl h0]
      exact ⟨by simp only; omega, rfl⟩
    · by_cases h1 : 49 ≤ byteAt s pos ∧ byteAt s pos ≤ 57
      · right
        rw [oneF_yes rfl (by simp only; omega) (by simp only; omega), numF_dig rfl h1]
        obtain ⟨k, rfl⟩ : ∃ k, most = k + 1 := ⟨most - 1, by omega⟩
        refine ⟨by simp only; omega, by simp only; omega, rfl, ?_⟩
        rw [digF_step (k := k) (at_ := pos) (v := 0) (by omega)]
        simp
      · left
        rw [oneF_no (by simp only; omega), numF_no rfl (by simp only; omega)]
        exact ⟨rfl, rfl⟩
  · left
    rw [oneF_bad rfl, numF_bad rfl]
    exact ⟨rfl, rfl⟩
theorem oneF_le {s : ByteArray} {lo hi : Nat} {st : St} (hh : hi < 256) (h : st.pos ≤ s.size) : (oneF s lo hi st).2.pos ≤ s.size := by
  unfold oneF
  split
  · exact h
  · rename_i g
    have := byteAt_in (s := s) (i := st.pos) (by omega)
    show st.pos + 1 ≤ _; omega

-- of RgE
/-- Does this byte stand next? Then it is read. -/
def nextF (s : ByteArray) (c : Nat) (st : St) : Bool × St := if st.bad = false ∧ byteAt s st.pos = c then (true, ⟨st.pos + 1, false⟩) else (false, st)
theorem nextF_yes {s : ByteArray} {c p : Nat} (h : byteAt s p = c) : nextF s c ⟨p, false⟩ = (true, ⟨p + 1, false⟩) := by simp [nextF, h]
theorem nextF_no {s : ByteArray} {c : Nat} {st : St} (h : ¬ (st.bad = false ∧ byteAt s st.pos = c)) : nextF s c st = (false, st) := by rw [nextF, if_neg h]
theorem nextF_ge (s : ByteArray) (c : Nat) (st : St) : st.pos ≤ (nextF s c st).2.pos := by unfold nextF; split <;> simp
theorem oneF_ge (s : ByteArray) (lo hi : Nat) (st : St) : st.pos ≤ (oneF s lo hi st).2.pos := by unfold oneF; split <;> simp
/-- A step of a table. -/
structure TStp where
  pl : Nat
  no : Nat
  lo : Nat
  hi : Nat
  rest : Bool
  mn : Nat
  mx : Nat
  t : Nat
  out : Int
  inn : Int
/-- A table's rest, if there is one: its place, its bounds. -/
def trestF (s : ByteArray) (st : St) : (Bool × Int × Nat × Nat) × St :=
  let r := nextF s 60 st
  if r.1 then
    let o := oneF s 48 57 r.2
    let a := numF s 3 (takeF s 58 o.2)
    let b := numF s 3 (takeF s 45 a.2)
    ((true, (o.1 : Int), a.1, b.1), b.2)
  else ((false, -1, 0, 0), r.2)
/-- The place into which a plate goes, if there is one. -/
def tintoF (s : ByteArray) (st : St) : Int × St :=
  let r := nextF s 62 st
  if r.1 then (((oneF s 48 57 r.2).1 : Int), (oneF s 48 57 r.2).2) else (-1, r.2)
def tstepF (s : ByteArray) (st : St) : TStp × St :=
  let p := oneF s 97 100 (takeF s 59 st)
  let n := oneF s 48 57 p.2
  let t := numF s 5 (takeF s 64 n.2)
  let l := numF s 3 (takeF s 43 t.2)
  let h := numF s 3 (takeF s 45 l.2)
  let r := trestF s h.2
  let i := tintoF s r.2
  (⟨p.1, n.1, l.1, h.1, r.1.1, r.1.2.2.1, r.1.2.2.2, t.1, r.1.2.1, i.1⟩, i.2)
theorem tstepF_bad {s : ByteArray} {st : St} (h : (takeF s 59 st).bad = true) : (tstepF s st).2.bad = true := by
  have e1 : ∀ lo hi (x : St), x.bad = true → (oneF s lo hi x).2.bad = true := fun lo hi x hx => by rw [oneF_bad hx]
  have e2 : ∀ m (x : St), x.bad = true → (numF s m x).2.bad = true := fun m x hx => by rw [numF_bad hx]; exact hx
  have e3 : ∀ c (x : St), x.bad = true → (takeF s c x).bad = true := fun c x hx => by rw [takeF_bad hx]; exact hx
  have e4 : ∀ c (x : St), x.bad = true → nextF s c x = (false, x) := fun c x hx => nextF_no (by simp [hx])
  have h9 := e2 3 _ (e3 45 _ (e2 3 _ (e3 43 _ (e2 5 _ (e3 64 _ (e1 48 57 _ (e1 97 100 _ h)))))))
  have hr : ∀ x : St, x.bad = true → (trestF s x).2 = x := fun x hx => by simp only [trestF, e4 60 x hx]; rfl
  have hi : ∀ x : St, x.bad = true → (tintoF s x).2 = x := fun x hx => by simp only [tintoF, e4 62 x hx]; rfl
  show (tintoF s (trestF s _).2).2.bad = true
  rw [hr _ h9, hi _ h9]; exact h9
theorem trestF_ge (s : ByteArray) (st : St) : st.pos ≤ (trestF s st).2.pos := by
  have h := nextF_ge s 60 st
  by_cases hb : (nextF s 60 st).1 = true
  · simp only [trestF, if_pos hb]
    exact Nat.le_trans h (Nat.le_trans (oneF_ge s 48 57 _) (Nat.le_trans (takeF_ge s 58 _) (Nat.le_trans (numF_ge s 3 _) (Nat.le_trans (takeF_ge s 45 _) (numF_ge s 3 _)))))
  · simp only [trestF, if_neg hb]
    exact h
theorem tintoF_ge (s : ByteArray) (st : St) : st.pos ≤ (tintoF s st).2.pos := by
  have h := nextF_ge s 62 st
  by_cases hb : (nextF s 62 st).1 = true
  · simp only [tintoF, if_pos hb]
    exact Nat.le_trans h (oneF_ge s 48 57 _)
  · simp only [tintoF, if_neg hb]
    exact h
theorem tstepF_ge (s : ByteArray) (st : St) : (takeF s 59 st).pos ≤ (tstepF s st).2.pos :=
  Nat.le_trans (oneF_ge s 97 100 _) (Nat.le_trans (oneF_ge s 48 57 _) (Nat.le_trans (takeF_ge s 64 _) (Nat.le_trans (numF_ge s 5 _) (Nat.le_trans (takeF_ge s 43 _) (Nat.le_trans (numF_ge s 3 _) (Nat.le_trans (takeF_ge s 45 _) (Nat.le_trans (numF_ge s 3 _) (Nat.le_trans (trestF_ge s _) (tintoF_ge s _)))))))))
theorem tstepF_gt {s : ByteArray} {st : St} (h : (tstepF s st).2.bad = false) : st.pos < (tstepF s st).2.pos := by
  have hg := tstepF_ge s st
  cases hb : (takeF s 59 st).bad
  · obtain ⟨_, _, e⟩ := takeF_good hb
    rw [e] at hg
    exact hg
  · rw [tstepF_bad hb] at h; cases h
def mT (s : ByteArray) (st : St) : Nat := if st.bad = false ∧ st.pos < s.size then s.size - st.pos else 0
theorem mT_lt {s : ByteArray} {st : St} (h1 : st.bad = false) (h2 : st.pos < s.size) : mT s (tstepF s st).2 < mT s st := by
  have e : mT s st = s.size - st.pos := by simp [mT, h1, h2]
  rw [e]
  unfold mT
  split
  · rename_i g
    have := tstepF_gt g.1
    omega
  · omega
def tablesF (s : ByteArray) (st : St) (acc : List TStp) : St × List TStp :=
  if _h : st.bad = false ∧ st.pos < s.size then tablesF s (tstepF s st).2 (acc ++ [(tstepF s st).1]) else (st, acc)
termination_by mT s st
decreasing_by exact mT_lt _h.1 _h.2
theorem tablesF_more {s : ByteArray} {st : St} {acc : List TStp} (h1 : st.bad = false) (h2 : st.pos < s.size) : tablesF s st acc = tablesF s (tstepF s st).2 (acc ++ [(tstepF s st).1]) := by
  rw [tablesF, dif_pos ⟨h1, h2⟩]
theorem tablesF_end {s : ByteArray} {st : St} {acc : List TStp} (h : ¬ (st.bad = false ∧ st.pos < s.size)) : tablesF s st acc = (st, acc) := by
  rw [tablesF, dif_neg h]
def theadF (s : ByteArray) : Nat × St := numF s 1 (takeF s 106 ⟨0, false⟩)
def tableF (s : ByteArray) : St × List TStp := tablesF s (theadF s).2 []

-- of RgF
/-- The place in which a plate is behind these steps (-1: none), and how many of them are the plate's. -/
def holdF (l : List TStp) (p : Nat) : Int × Nat := l.foldl (fun a y => if y.pl = p then (y.inn, a.2 + 1) else a) (-1, 0)
theorem holdF_snoc (l : List TStp) (y : TStp) (p : Nat) : holdF (l ++ [y]) p = if y.pl = p then (y.inn, (holdF l p).2 + 1) else holdF l p := by simp [holdF]
theorem holdF_le (l : List TStp) (p : Nat) : (holdF l p).2 ≤ l.length := by
  have h : ∀ (l : List TStp) (a : Int × Nat), (l.foldl (fun a y => if y.pl = p then (y.inn, a.2 + 1) else a) a).2 ≤ a.2 + l.length := by
    intro l
    induction l with
    | nil => intro a; simp
    | cons y r ih =>
      intro a
      rw [List.foldl_cons, List.length_cons]
      by_cases hp : y.pl = p
      · rw [if_pos hp]
        have := ih (y.inn, a.2 + 1)
        simp only at this
        omega
      · rw [if_neg hp]
        have := ih a
        omega
  have := h l (-1, 0)
  unfold holdF
  simpa using this
/-- Is a step right by itself, and as to its own plate? -/
def ownRight (l : List TStp) (i : Nat) (x : TStp) : Bool :=
  x.no == (holdF (l.take i) x.pl).2 && !(x.lo == 0) && !decide (x.hi < x.lo) && !decide (x.mx < x.mn) && x.out == (holdF (l.take i) x.pl).1
/-- Is the place that a step names taken by plate a? -/
def clash (l : List TStp) (i : Nat) (x : TStp) (a : Nat) : Bool := !(a == x.pl) && (decide (0 ≤ x.inn) && (holdF (l.take i) a).1 == x.inn)
def rightF (l : List TStp) (i : Nat) : Bool :=
  match l[i]? with
  | none => false
  | some x => ownRight l i x && (List.range 4).all fun a => !clash l i x a

def firstF (l : List Int) (time : Int) (n : Nat) : Int := if h : n < l.length then (if time ≤ l[n] then (n : Int) else firstF l time (n + 1)) else -1
termination_by l.length - n

def joinedF (s t : ByteArray) : ByteArray := if s.toList.isEmpty then t else s ++ ⟨#[44]⟩ ++ t

/-- The first step that is not right, from place k on. -/
def wrongF (l : List TStp) (k : Nat) : Int × Int := if k < l.length then (if rightF l k then wrongF l (k + 1) else (9, (k : Int))) else (0, 0)
termination_by l.length - k
def lookF (s : ByteArray) : Int × Int := if 400 < s.size then (1, 0) else if (tableF s).1.bad then (2, ((tableF s).1.pos : Int)) else wrongF (tableF s).2 0


-- of RgJ
theorem nextF_in {s : ByteArray} {c : Nat} {st : St} (hc : c < 256) (h : (nextF s c st).1 = true) : st.bad = false ∧ byteAt s st.pos = c ∧ st.pos < s.size ∧ nextF s c st = (true, ⟨st.pos + 1, false⟩) := by
  unfold nextF at h ⊢
  split at h
  · rename_i g
    exact ⟨g.1, g.2, byteAt_in (by omega), by rw [if_pos g]⟩
  · cases h
/-- Numbers with commas. -/
def numsF (s : ByteArray) (st : St) (acc : List Nat) : List Nat × St :=
  if st.bad then (acc, st)
  else if _h : (nextF s 44 (numF s 3 st).2).1 = true then numsF s (nextF s 44 (numF s 3 st).2).2 (acc ++ [(numF s 3 st).1])
  else (acc ++ [(numF s 3 st).1], (nextF s 44 (numF s 3 st).2).2)
termination_by s.size - st.pos
decreasing_by
  obtain ⟨_, _, h3, h4⟩ := nextF_in (by omega) _h
  have := numF_ge s 3 st
  rw [h4]
  simp only
  omega
def numbersF (s : ByteArray) (c : Nat) (st : St) : List Nat × St :=
  if (c = 0 ∧ st.pos = s.size) ∨ (c ≠ 0 ∧ byteAt s st.pos = c) then ([], st) else numsF s st []

-- of RgL
theorem numsF_le {s : ByteArray} (n : Nat) : ∀ (st : St) (acc : List Nat), s.size - st.pos = n → st.pos ≤ s.size → (numsF s st acc).2.pos ≤ s.size := by
  induction n using Nat.strongRecOn with
  | ind n ih =>
    intro st acc hn h
    have hP := numF_le (s := s) (m := 3) (st := st) h
    have hG := numF_ge s 3 st
    rw [numsF]
    split
    · exact h
    · split
      · rename_i hq
        obtain ⟨_, _, h3, h4⟩ := nextF_in (by omega) hq
        rw [h4]
        exact ih (s.size - ((numF s 3 st).2.pos + 1)) (by omega) _ _ rfl (by simp only; omega)
      · rename_i hq
        have e : (nextF s 44 (numF s 3 st).2).2 = (numF s 3 st).2 := by
          unfold nextF at hq ⊢
          split
          · rename_i g; rw [if_pos g] at hq; exact absurd rfl hq
          · rfl
        simp only [e]
        exact hP
theorem numbersF_le {s : ByteArray} {c : Nat} {st : St} (h : st.pos ≤ s.size) : (numbersF s c st).2.pos ≤ s.size := by
  unfold numbersF
  split
  · exact h
  · exact numsF_le _ st [] rfl h
def scr1 (s : ByteArray) : List Nat × St := numbersF s 47 ⟨0, false⟩
def scr2 (s : ByteArray) : List Nat × St := numbersF s 0 (takeF s 47 (scr1 s).2)
def scrOk (s : ByteArray) : Bool := !(scr2 s).2.bad && (scr2 s).2.pos == s.size

end Hx
end Go.Proofs.YtppcnlkhdgmaiaaGreatDoor
