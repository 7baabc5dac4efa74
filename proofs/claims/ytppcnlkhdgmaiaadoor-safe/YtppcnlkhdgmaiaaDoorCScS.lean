/- The plain mathematics of a clock that goes on for longer: what has ended stays, what was open goes on from what was told; and that a script with a longer clock is read as such. No program is named here. The plain mathematics of texts that are put together: their bytes; two scripts of which one has the longer clock. No program is named here. What hatchkeep's cut does. hatchkeep's ran: the document's two examples of Run; what Onward answers. What Safe answers: P8, of every table and script. -/
import Derived.Test.YtppcnlkhdgmaiaaDoorCRmF
import Derived.Test.YtppcnlkhdgmaiaaDoorCRdD
import Derived.Deep.LoopGhost
import Derived.Handy
import Derived.Test.YtppcnlkhdgmaiaaDoorCScE
import Derived.Test.YtppcnlkhdgmaiaaDoorCScH
namespace Go.Proofs.YtppcnlkhdgmaiaaDoor
namespace Hx

/-- The machine's book. -/
structure Bk (l : List TStp) (m : Ms) : Prop where
  le : m.k ≤ l.length
  free : m.work = false → m.sts.length = m.k
  busy : m.work = true → m.k < l.length ∧ ∃ pre b, m.sts = pre ++ [(b, none)] ∧ pre.length = m.k

theorem pre_begin (l : List TStp) (sts : List (Nat × Option Nat)) (x : TStp) (e : Nat × Option Nat) (hx : l[sts.length]? = some x) : evB l sts <+: evB l (sts ++ [e]) := by
  rw [evB_snoc l sts x e hx]
  split
  · rename_i h; rw [h, evB_nil]; exact List.nil_prefix
  · rw [List.append_assoc]; exact List.prefix_append _ _
theorem pre_end (l : List TStp) (pre : List (Nat × Option Nat)) (x : TStp) (now v : Nat) (hx : l[pre.length]? = some x) : evB l (pre ++ [(now, none)]) <+: evB l (pre ++ [(now, some v)]) := by
  rw [ent_open l pre x now hx, ent_shut l pre x now v hx]
  exact List.prefix_append _ _

theorem began_pre {m : Ms} {pre : List (Nat × Option Nat)} {b : Nat} (h1 : m.sts = pre ++ [(b, none)]) (h2 : pre.length = m.k) : beganM m = b := by
  have : m.sts.getD m.k (0, none) = (b, none) := by
    rw [List.getD_eq_getElem?_getD, h1, ← h2, List.getElem?_append_right (Nat.le_refl _)]
    simp
  rw [beganM, this]
theorem setd_pre {m : Ms} {pre : List (Nat × Option Nat)} {b : Nat} (h1 : m.sts = pre ++ [(b, none)]) (h2 : pre.length = m.k) (e : Nat × Option Nat) : m.sts.set m.k e = pre ++ [e] := by
  rw [h1, ← h2, List.set_append_right _ _ (Nat.le_refl _)]
  simp

theorem oneM_bk {l : List TStp} {J : Nat} {takes : List Nat} {m m' : Ms} {r : Option Nat} (hb : Bk l m) (h : oneM l J takes m = (r, m')) : evB l m.sts <+: evB l m'.sts ∧ (r = none ∨ r = some 0 → Bk l m') := by
  unfold oneM at h
  cases hx : l[m.k]? with
  | none => rw [hx] at h; cases h; exact ⟨List.prefix_refl _, fun _ => hb⟩
  | some x =>
    have hk : m.k < l.length := by
      rcases Nat.lt_or_ge m.k l.length with g | g
      · exact g
      · rw [List.getElem?_eq_none g] at hx; cases hx
    rw [hx] at h
    simp only at h
    split at h
    · rename_i hw
      obtain ⟨_, pre, b, h1, h2⟩ := hb.busy hw
      have hp : evB l m.sts <+: evB l (m.sts.set m.k (beganM m, some (beganM m + takes.getD m.k 0))) := by
        rw [setd_pre h1 h2, began_pre h1 h2, h1]
        exact pre_end l pre x b _ (by rw [h2]; exact hx)
      split at h
      · unfold finishM at h
        split at h
        · cases h; exact ⟨hp, fun g => by rcases g with g | g <;> cases g⟩
        · split at h
          · cases h; exact ⟨hp, fun g => by rcases g with g | g <;> cases g⟩
          · cases h
            refine ⟨hp, fun _ => ⟨hk, fun _ => ?_, fun g => by cases g⟩⟩
            show (m.sts.set m.k _).length = m.k + 1
            rw [List.length_set, h1]; simp [h2]
      · split at h
        · cases h; exact ⟨List.prefix_refl _, fun g => by rcases g with g | g <;> cases g⟩
        · cases h; exact ⟨List.prefix_refl _, fun _ => hb⟩
    · rename_i hw
      have hw : m.work = false := by simpa using hw
      split at h
      · cases h; exact ⟨List.prefix_refl _, fun _ => hb⟩
      · unfold beginM at h
        split at h
        · cases h; exact ⟨List.prefix_refl _, fun g => by rcases g with g | g <;> cases g⟩
        · split at h
          · cases h; exact ⟨List.prefix_refl _, fun g => by rcases g with g | g <;> cases g⟩
          · cases h
            have hl := hb.free hw
            exact ⟨pre_begin l m.sts x _ (by rw [hl]; exact hx), fun _ => ⟨hb.le, fun g => (by cases g), fun _ => ⟨hk, m.sts, m.time, rfl, hl⟩⟩⟩

theorem lookM_bk {l : List TStp} {J : Nat} {takes : List Nat} : ∀ (n : Nat) (m : Ms), muM l m = n → Bk l m → evB l m.sts <+: evB l (lookM l J takes m).2.sts ∧ ((lookM l J takes m).1 = 0 → Bk l (lookM l J takes m).2) := by
  intro n
  induction n using Nat.strongRecOn with
  | ind n ih =>
    intro m hn hb
    rcases ho : oneM l J takes m with ⟨r, m'⟩
    obtain ⟨h1, h2⟩ := oneM_bk hb ho
    cases r with
    | none =>
      rw [lookM_none ho]
      have hmu := oneM_mu ho
      obtain ⟨g1, g2⟩ := ih _ (by omega) m' rfl (h2 (Or.inl rfl))
      exact ⟨h1.trans g1, g2⟩
    | some e =>
      rw [lookM_some ho]
      exact ⟨h1, fun he => h2 (Or.inr (by rw [show e = 0 from he]))⟩

theorem runM_bk {l : List TStp} {J : Nat} {takes : List Nat} : ∀ (cs : List Nat) (r : Nat × Ms), (r.1 = 0 → Bk l r.2) → evB l r.2.sts <+: evB l (runM l J takes cs r).2.sts ∧ ((runM l J takes cs r).1 = 0 → Bk l (runM l J takes cs r).2)
  | [], r, h => ⟨List.prefix_refl _, h⟩
  | c :: cs, r, h => by
    by_cases he : r.1 = 0
    · rw [runM_cons he]
      have hb := h he
      have hb' : Bk l { r.2 with time := r.2.time + c } := ⟨hb.le, hb.free, hb.busy⟩
      obtain ⟨h1, h2⟩ := lookM_bk (J := J) (takes := takes) _ _ rfl hb'
      obtain ⟨g1, g2⟩ := runM_bk cs (lookM l J takes { r.2 with time := r.2.time + c }) h2
      exact ⟨List.IsPrefix.trans h1 g1, g2⟩
    · rw [runM_end he]; exact ⟨List.prefix_refl _, fun g => absurd g he⟩
theorem runM_app {l : List TStp} {J : Nat} {takes : List Nat} : ∀ (cs ds : List Nat) (r : Nat × Ms), runM l J takes (cs ++ ds) r = runM l J takes ds (runM l J takes cs r)
  | [], _, _ => rfl
  | c :: cs, ds, r => by
    by_cases he : r.1 = 0
    · rw [List.cons_append, runM_cons he, runM_cons he]; exact runM_app cs ds _
    · rw [runM_end he, runM_end he, runM_end he]
theorem start_bk (l : List TStp) : Bk l startM := ⟨Nat.zero_le _, fun _ => rfl, fun h => by cases h⟩
theorem machF_bk (l : List TStp) (J : Nat) (clock takes : List Nat) : (machF l J clock takes).1 = 0 → Bk l (machF l J clock takes).2 :=
  (runM_bk clock _ (lookM_bk _ _ rfl (start_bk l)).2).2
/-- A longer clock: what has ended stays. -/
theorem machF_ended {l : List TStp} {J : Nat} {C M takes : List Nat} (h : (machF l J C takes).1 ≠ 0) : machF l J (C ++ M) takes = machF l J C takes := by
  unfold machF at h ⊢
  rw [runM_app, runM_end h]
/-- A longer clock: what was told stays. -/
theorem machF_onward (l : List TStp) (J : Nat) (C M takes : List Nat) : evB l (machF l J C takes).2.sts <+: evB l (machF l J (C ++ M) takes).2.sts := by
  rw [show machF l J (C ++ M) takes = runM l J takes M (machF l J C takes) by unfold machF; rw [runM_app]]
  exact (runM_bk M _ (machF_bk l J C takes)).1

/-- What stands ahead of the first semicolon, and behind it. -/
def cutF : List UInt8 → List UInt8 × List UInt8
  | [] => ([], [])
  | b :: r => if b = 59 then ([], r) else (b :: (cutF r).1, (cutF r).2)
theorem cutF_at (h e : List UInt8) (hn : 59 ∉ h) : cutF (h ++ 59 :: e) = (h, e) := by
  induction h with
  | nil => simp [cutF]
  | cons b r ih =>
    have h1 : b ≠ 59 := fun g => hn (by simp [g])
    have h2 : 59 ∉ r := fun g => hn (by simp [g])
    rw [List.cons_append, cutF, if_neg h1, ih h2]
def headB (l : List TStp) (r : Nat × Ms) : List UInt8 := outB r.1 ++ (if 2 ≤ r.1 then [32] ++ nameAt l r.2.k else [])
theorem tellF_head (l : List TStp) (r : Nat × Ms) : tellF l r = headB l r ++ 59 :: evB l r.2.sts := by simp [tellF, headB]
theorem name_no {pl no : Nat} (h1 : pl < 4) (h2 : no < 10) : (59 : UInt8) ∉ nmB pl no := by
  have key : ∀ p : Fin 4, ∀ n : Fin 10, (59 : UInt8) ∉ nmB p.val n.val := by decide
  exact key ⟨pl, h1⟩ ⟨no, h2⟩
theorem outB_no (e : Nat) : (59 : UInt8) ∉ outB e := by
  match e with
  | 0 => decide
  | 1 => decide
  | 2 => decide
  | 3 => decide
  | 4 => decide
  | n + 5 => exact (by decide : (59 : UInt8) ∉ outB 5)
theorem headB_no {l : List TStp} (hok : ∀ y ∈ l, TOk y) (r : Nat × Ms) : (59 : UInt8) ∉ headB l r := by
  unfold headB
  intro h
  rcases List.mem_append.1 h with h | h
  · exact outB_no _ h
  · split at h
    · rcases List.mem_append.1 h with h | h
      · revert h; decide
      · unfold nameAt at h
        split at h
        · rename_i x hx
          have := hok x (List.mem_of_getElem? hx)
          exact name_no this.pl this.no h
        · cases h
    · cases h
theorem cut_tell {l : List TStp} (hok : ∀ y ∈ l, TOk y) (r : Nat × Ms) : cutF (tellF l r) = (headB l r, evB l r.2.sts) := by
  rw [tellF_head]; exact cutF_at _ _ (headB_no hok r)
/-- What Onward asks of the two answers. -/
theorem onward_tell {l : List TStp} (hok : ∀ y ∈ l, TOk y) (J : Nat) (C M takes : List Nat) :
    ((cutF (tellF l (machF l J C takes))).1 ≠ outB 0 → tellF l (machF l J C takes) = tellF l (machF l J (C ++ M) takes)) ∧
    (cutF (tellF l (machF l J C takes))).2 <+: (cutF (tellF l (machF l J (C ++ M) takes))).2 := by
  rw [cut_tell hok, cut_tell hok]
  refine ⟨fun h => ?_, machF_onward l J C M takes⟩
  by_cases he : (machF l J C takes).1 = 0
  · exact absurd (by simp [headB, he]) h
  · rw [machF_ended he]

/-- What is read of a number is digits. -/
theorem digF_pass (s : ByteArray) : ∀ k at_ v i, at_ ≤ i → i < (digF s k at_ v).2 → 48 ≤ byteAt s i ∧ byteAt s i ≤ 57
  | 0, at_, v, i, h1, h2 => by simp [digF] at h2; omega
  | k + 1, at_, v, i, h1, h2 => by
    unfold digF at h2
    split at h2
    · rename_i g
      by_cases e : i = at_
      · rw [e]; exact g
      · exact digF_pass s k (at_ + 1) _ i (by omega) h2
    · simp at h2; omega
theorem numF_pass {s : ByteArray} {m : Nat} {st : St} {i : Nat} (h1 : st.pos ≤ i) (h2 : i < (numF s m st).2.pos) : 48 ≤ byteAt s i ∧ byteAt s i ≤ 57 := by
  unfold numF at h2
  split at h2
  · simp at h2; omega
  · split at h2
    · rename_i e
      simp at h2
      rw [show i = st.pos by omega, e]; omega
    · split at h2
      · exact digF_pass s m st.pos 0 i h1 h2
      · simp at h2; omega
theorem numsF_pass {s : ByteArray} (n : Nat) : ∀ (st : St) (acc : List Nat) (i : Nat), s.size - st.pos = n → st.pos ≤ i → i < (numsF s st acc).2.pos → byteAt s i ≠ 47 := by
  induction n using Nat.strongRecOn with
  | ind n ih =>
    intro st acc i hn h1 h2
    have hG := numF_ge s 3 st
    rw [numsF] at h2
    split at h2
    · simp at h2; omega
    · rename_i hbad
      split at h2
      · rename_i hq
        obtain ⟨_, g2, h3, h4⟩ := nextF_in (by omega) hq
        rw [h4] at h2
        by_cases c1 : i < (numF s 3 st).2.pos
        · have := numF_pass h1 c1; omega
        · by_cases c2 : i = (numF s 3 st).2.pos
          · rw [c2, g2]; omega
          · exact ih (s.size - ((numF s 3 st).2.pos + 1)) (by omega) ⟨(numF s 3 st).2.pos + 1, false⟩ _ i rfl (by simp only; omega) h2
      · rename_i hq
        have : (nextF s 44 (numF s 3 st).2).2 = (numF s 3 st).2 := by
          unfold nextF at hq ⊢
          split at hq
          · simp at hq
          · rename_i g; rw [if_neg g]
        simp only [this] at h2
        have := numF_pass h1 h2; omega
theorem numbersF_pass {s : ByteArray} {c : Nat} {st : St} {i : Nat} (h1 : st.pos ≤ i) (h2 : i < (numbersF s c st).2.pos) : byteAt s i ≠ 47 := by
  unfold numbersF at h2
  split at h2
  · simp at h2; omega
  · exact numsF_pass _ st [] i rfl h1 h2
theorem numbersF_badS {s : ByteArray} {c : Nat} {st : St} (h : st.bad = true) : (numbersF s c st).2.bad = true := by
  unfold numbersF
  split
  · exact h
  · rw [numsF, if_pos h]; exact h
/-- The one stroke of a right script. -/
theorem stroke {s : ByteArray} (h : scrOk s = true) : (scr1 s).2.bad = false ∧ byteAt s (scr1 s).2.pos = 47 ∧ takeF s 47 (scr1 s).2 = ⟨(scr1 s).2.pos + 1, false⟩ ∧ (scr2 s).2.pos = s.size ∧ (scr2 s).2.bad = false ∧ ∀ i, i < s.size → byteAt s i = 47 → i = (scr1 s).2.pos := by
  simp only [scrOk, Bool.and_eq_true, Bool.not_eq_true', beq_iff_eq] at h
  obtain ⟨h1, h2⟩ := h
  have ht : ¬ ((scr1 s).2.bad = true ∨ byteAt s (scr1 s).2.pos ≠ 47) := fun g => by
    have : (takeF s 47 (scr1 s).2).bad = true := by rw [takeF, if_pos g]
    have := numbersF_badS (s := s) (c := 0) this
    unfold scr2 at h1
    rw [this] at h1; cases h1
  have e1 : (scr1 s).2.bad = false := by
    cases hb : (scr1 s).2.bad
    · rfl
    · exact absurd (Or.inl hb) ht
  have e2 : byteAt s (scr1 s).2.pos = 47 := by
    rcases Nat.decEq (byteAt s (scr1 s).2.pos) 47 with g | g
    · exact absurd (Or.inr g) ht
    · exact g
  have e3 : takeF s 47 (scr1 s).2 = ⟨(scr1 s).2.pos + 1, false⟩ := by rw [takeF, if_neg ht]
  refine ⟨e1, e2, e3, h2, h1, fun i hi hb => ?_⟩
  rcases Nat.lt_trichotomy i (scr1 s).2.pos with g | g | g
  · exact absurd hb (numbersF_pass (st := ⟨0, false⟩) (Nat.zero_le _) g)
  · exact g
  · refine absurd hb (numbersF_pass (st := takeF s 47 (scr1 s).2) (c := 0) ?_ ?_)
    · rw [e3]; exact g
    · show i < (scr2 s).2.pos
      omega

/-- Two texts that agree up to a place, at which neither has a digit. -/
theorem digF_agree {A B : ByteArray} {n : Nat} (hag : ∀ i, i < n → byteAt A i = byteAt B i) (hA : ¬ (48 ≤ byteAt A n ∧ byteAt A n ≤ 57)) (hB : ¬ (48 ≤ byteAt B n ∧ byteAt B n ≤ 57)) : ∀ k at_ v, at_ ≤ n → digF A k at_ v = digF B k at_ v ∧ (digF A k at_ v).2 ≤ n
  | 0, at_, v, h => by simp [digF, h]
  | k + 1, at_, v, h => by
    unfold digF
    by_cases e : at_ = n
    · subst e; rw [if_neg hA, if_neg hB]; exact ⟨rfl, h⟩
    · rw [hag at_ (by omega)]
      split
      · exact digF_agree hag hA hB k (at_ + 1) _ (by omega)
      · exact ⟨rfl, h⟩
theorem numF_agree {A B : ByteArray} {n : Nat} (hag : ∀ i, i < n → byteAt A i = byteAt B i) (hA : ¬ (48 ≤ byteAt A n ∧ byteAt A n ≤ 57)) (hB : ¬ (48 ≤ byteAt B n ∧ byteAt B n ≤ 57)) (m p : Nat) (h : p ≤ n) : numF A m ⟨p, false⟩ = numF B m ⟨p, false⟩ ∧ (numF A m ⟨p, false⟩).2.pos ≤ n := by
  by_cases e : p = n
  · subst e
    rw [numF_no rfl hA, numF_no rfl hB]
    exact ⟨rfl, h⟩
  · have g := hag p (by omega)
    obtain ⟨d1, d2⟩ := digF_agree hag hA hB m p 0 h
    unfold numF
    simp only [g, Bool.false_eq_true, if_false]
    split
    · exact ⟨rfl, by simp only; omega⟩
    · split
      · rw [d1]; exact ⟨rfl, by rw [d1] at d2; exact d2⟩
      · exact ⟨rfl, h⟩
theorem numsF_acc {s : ByteArray} (n : Nat) : ∀ (st : St) (acc acc2 : List Nat), s.size - st.pos = n → numsF s st (acc ++ acc2) = (acc ++ (numsF s st acc2).1, (numsF s st acc2).2) := by
  induction n using Nat.strongRecOn with
  | ind n ih =>
    intro st acc acc2 hn
    have hG := numF_ge s 3 st
    rw [numsF, numsF.eq_1 s st acc2]
    split
    · rfl
    · split
      · rename_i hq
        obtain ⟨_, g2, h3, h4⟩ := nextF_in (by omega) hq
        rw [h4, List.append_assoc]
        exact ih (s.size - ((numF s 3 st).2.pos + 1)) (by omega) ⟨(numF s 3 st).2.pos + 1, false⟩ acc _ rfl
      · rw [List.append_assoc]
theorem numsF_agree {A B : ByteArray} {n : Nat} (hag : ∀ i, i < n → byteAt A i = byteAt B i) (hA : byteAt A n = 47) (hB : byteAt B n = 44) : ∀ (q p : Nat) (acc acc' : List Nat), n - p = q → p ≤ n → numsF A ⟨p, false⟩ acc = (acc', ⟨n, false⟩) → numsF B ⟨p, false⟩ acc = numsF B ⟨n + 1, false⟩ acc' := by
  intro q
  induction q using Nat.strongRecOn with
  | ind q ih =>
    intro p acc acc' hq hp h
    obtain ⟨e1, e2⟩ := numF_agree (A := A) (B := B) (n := n) hag (by omega) (by omega) 3 p hp
    have hG := numF_ge A 3 ⟨p, false⟩
    simp only at hG
    rw [numsF, if_neg (by simp)] at h
    rw [numsF, if_neg (by simp), ← e1]
    rcases hst : numF A 3 ⟨p, false⟩ with ⟨v, ⟨u, bad⟩⟩
    rw [hst] at h e2 hG
    simp only at h e2 hG ⊢
    cases bad with
    | true =>
      have k1 : nextF A 44 ⟨u, true⟩ = (false, ⟨u, true⟩) := nextF_no (by simp)
      rw [k1] at h
      simp at h
    | false =>
      by_cases hu : u = n
      · subst hu
        have k1 : nextF A 44 ⟨u, false⟩ = (false, ⟨u, false⟩) := nextF_no (by simp [hA])
        have k2 : nextF B 44 ⟨u, false⟩ = (true, ⟨u + 1, false⟩) := nextF_yes hB
        rw [k1] at h
        simp at h
        rw [k2]
        simp [h]
      · have hu' : u < n := by omega
        by_cases hc : byteAt A u = 44
        · have k1 : nextF A 44 ⟨u, false⟩ = (true, ⟨u + 1, false⟩) := nextF_yes hc
          have k2 : nextF B 44 ⟨u, false⟩ = (true, ⟨u + 1, false⟩) := nextF_yes (by rw [← hag u hu']; exact hc)
          rw [k1] at h
          rw [k2]
          simp only [dite_true] at h ⊢
          exact ih (n - (u + 1)) (by omega) (u + 1) _ acc' rfl (by omega) h
        · have k1 : nextF A 44 ⟨u, false⟩ = (false, ⟨u, false⟩) := nextF_no (by simp [hc])
          rw [k1] at h
          simp at h
          omega

/-- Two texts that agree from two places on. -/
theorem digF_shift {A B : ByteArray} {a b : Nat} (hag : ∀ i, byteAt A (a + i) = byteAt B (b + i)) : ∀ k i v, (digF A k (a + i) v).1 = (digF B k (b + i) v).1 ∧ ∃ j, (digF A k (a + i) v).2 = a + j ∧ (digF B k (b + i) v).2 = b + j
  | 0, i, v => ⟨rfl, i, rfl, rfl⟩
  | k + 1, i, v => by
    unfold digF
    rw [hag i]
    split
    · exact digF_shift hag k (i + 1) _
    · exact ⟨rfl, i, rfl, rfl⟩
theorem numF_shift {A B : ByteArray} {a b : Nat} (hag : ∀ i, byteAt A (a + i) = byteAt B (b + i)) (m i : Nat) (bad : Bool) : (numF A m ⟨a + i, bad⟩).1 = (numF B m ⟨b + i, bad⟩).1 ∧ ∃ j bad', (numF A m ⟨a + i, bad⟩).2 = ⟨a + j, bad'⟩ ∧ (numF B m ⟨b + i, bad⟩).2 = ⟨b + j, bad'⟩ := by
  unfold numF
  simp only [hag i]
  split
  · exact ⟨rfl, i, bad, rfl, rfl⟩
  · split
    · exact ⟨rfl, i + 1, false, rfl, rfl⟩
    · split
      · obtain ⟨h1, j, h2, h3⟩ := digF_shift hag m i 0
        exact ⟨h1, j, false, by rw [h2], by rw [h3]⟩
      · exact ⟨rfl, i, true, rfl, rfl⟩
theorem numsF_shift {A B : ByteArray} {a b : Nat} (hag : ∀ i, byteAt A (a + i) = byteAt B (b + i)) : ∀ (q i : Nat) (bad : Bool) (acc : List Nat), A.size - (a + i) = q → (numsF A ⟨a + i, bad⟩ acc).1 = (numsF B ⟨b + i, bad⟩ acc).1 := by
  intro q
  induction q using Nat.strongRecOn with
  | ind q ih =>
    intro i bad acc hq
    obtain ⟨e1, j, bd, e2, e3⟩ := numF_shift hag 3 i bad
    have hG := numF_ge A 3 ⟨a + i, bad⟩
    rw [numsF, numsF.eq_1 B]
    cases bad with
    | true => simp
    | false =>
      simp only [Bool.false_eq_true, if_false]
      rw [e2] at hG
      simp only at hG
      rw [e1, e2, e3]
      cases bd with
      | true =>
        have k1 : nextF A 44 ⟨a + j, true⟩ = (false, ⟨a + j, true⟩) := nextF_no (by simp)
        have k2 : nextF B 44 ⟨b + j, true⟩ = (false, ⟨b + j, true⟩) := nextF_no (by simp)
        rw [k1, k2]; simp
      | false =>
        by_cases hc : byteAt A (a + j) = 44
        · have hin := byteAt_in (s := A) (i := a + j) (by omega)
          have k1 : nextF A 44 ⟨a + j, false⟩ = (true, ⟨a + j + 1, false⟩) := nextF_yes hc
          have k2 : nextF B 44 ⟨b + j, false⟩ = (true, ⟨b + j + 1, false⟩) := nextF_yes (by rw [← hag j]; exact hc)
          rw [k1, k2]
          simp only [dite_true]
          exact ih (A.size - (a + (j + 1))) (by omega) (j + 1) false _ rfl
        · have k1 : nextF A 44 ⟨a + j, false⟩ = (false, ⟨a + j, false⟩) := nextF_no (by simp [hc])
          have k2 : nextF B 44 ⟨b + j, false⟩ = (false, ⟨b + j, false⟩) := nextF_no (by simp [← hag j, hc])
          rw [k1, k2]; simp

/-- A script with a longer clock: its clock goes on, its lengths are the same. -/
theorem longer {A B : ByteArray} {n n2 : Nat} (hA : scrOk A = true) (hB : scrOk B = true) (h1 : n < A.size) (h2 : n < n2) (h3 : n2 < B.size) (hag : ∀ i, i < n → byteAt A i = byteAt B i) (a1 : byteAt A n = 47) (b1 : byteAt B n = 44) (b2 : byteAt B n2 = 47) (hsh : ∀ i, byteAt A (n + 1 + i) = byteAt B (n2 + 1 + i)) (hsz : A.size - n = B.size - n2) :
    (∃ M, (scr1 B).1 = (scr1 A).1 ++ M) ∧ (scr2 A).1 = (scr2 B).1 := by
  obtain ⟨p1, p2, p3, p4, p5, p6⟩ := stroke hA
  obtain ⟨q1, q2, q3, q4, q5, q6⟩ := stroke hB
  have en := p6 n h1 a1
  have en2 := q6 n2 h3 b2
  rw [← en] at p3
  rw [← en2] at q3
  refine ⟨?_, ?_⟩
  · have hs1 : scr1 A = ((scr1 A).1, ⟨n, false⟩) := by
      rcases hh : scr1 A with ⟨v, ⟨p, b⟩⟩
      rw [hh] at en p1
      simp only at en p1
      rw [en, p1]
    by_cases hz : byteAt A 0 = 47
    · exfalso
      have : scr1 A = ([], ⟨0, false⟩) := by unfold scr1 numbersF; rw [if_pos (Or.inr ⟨by omega, hz⟩)]
      rw [this] at en
      simp only at en
      subst en
      have hb : scr1 B = numsF B ⟨0, false⟩ [] := by
        unfold scr1 numbersF
        rw [if_neg (by simp; rw [b1]; omega)]
      rw [numsF, if_neg (by simp), numF_no rfl (by simp only [b1]; omega)] at hb
      rw [nextF_no (by simp)] at hb
      simp at hb
      rw [hb] at q1
      cases q1
    · have hA1 : scr1 A = numsF A ⟨0, false⟩ [] := by
        unfold scr1 numbersF
        rw [if_neg (by simp; exact hz)]
      have hz' : byteAt B 0 ≠ 47 := by
        by_cases hn0 : n = 0
        · subst hn0; rw [b1]; omega
        · rw [← hag 0 (by omega)]; exact hz
      have hB1 : scr1 B = numsF B ⟨0, false⟩ [] := by
        unfold scr1 numbersF
        rw [if_neg (by simp; exact hz')]
      have := numsF_agree hag a1 b1 (n - 0) 0 [] (scr1 A).1 rfl (Nat.zero_le _) (hA1 ▸ hs1)
      rw [← hB1] at this
      rw [this]
      have hac := numsF_acc (s := B) _ ⟨n + 1, false⟩ (scr1 A).1 [] rfl
      rw [List.append_nil] at hac
      rw [hac]
      exact ⟨_, rfl⟩
  · unfold scr2
    rw [p3, q3]
    unfold numbersF
    by_cases hz : n + 1 = A.size
    · rw [if_pos (Or.inl ⟨rfl, hz⟩), if_pos (Or.inl ⟨rfl, by simp only; omega⟩)]
    · rw [if_neg (by simp; omega), if_neg (by simp; omega)]
      exact numsF_shift (a := n + 1) (b := n2 + 1) hsh _ 0 false [] rfl

end Hx
end Go.Proofs.YtppcnlkhdgmaiaaDoor
namespace Go.Proofs.YtppcnlkhdgmaiaaDoor
namespace Hx

theorem byteAt_data (s : ByteArray) (i : Nat) : byteAt s i = match s.data[i]? with | some b => b.toNat | none => 256 := by
  unfold byteAt
  by_cases h : i < s.size
  · rw [dif_pos h, Array.getElem?_eq_getElem h]; rfl
  · rw [dif_neg h, Array.getElem?_eq_none (by show s.size ≤ i; omega)]
theorem byteAt_left {a b : ByteArray} {i : Nat} (h : i < a.size) : byteAt (a ++ b) i = byteAt a i := by
  rw [byteAt_data, byteAt_data, ByteArray.data_append, Array.getElem?_append_left h]
theorem byteAt_right (a b : ByteArray) (i : Nat) : byteAt (a ++ b) (a.size + i) = byteAt b i := by
  rw [byteAt_data, byteAt_data, ByteArray.data_append, Array.getElem?_append_right (by show a.size ≤ _; omega)]
  have : a.size + i - a.data.size = i := by show a.size + i - a.size = i; omega
  rw [this]

/-- The two scripts of Onward. -/
theorem longer_texts (c m k : ByteArray) (hA : scrOk (c ++ ⟨#[47]⟩ ++ k) = true) (hB : scrOk (c ++ ⟨#[44]⟩ ++ m ++ ⟨#[47]⟩ ++ k) = true) :
    (∃ M, (scr1 (c ++ ⟨#[44]⟩ ++ m ++ ⟨#[47]⟩ ++ k)).1 = (scr1 (c ++ ⟨#[47]⟩ ++ k)).1 ++ M) ∧ (scr2 (c ++ ⟨#[47]⟩ ++ k)).1 = (scr2 (c ++ ⟨#[44]⟩ ++ m ++ ⟨#[47]⟩ ++ k)).1 := by
  have z1 : (⟨#[47]⟩ : ByteArray).size = 1 := rfl
  have z2 : (⟨#[44]⟩ : ByteArray).size = 1 := rfl
  have s1 : (c ++ ⟨#[47]⟩ : ByteArray).size = c.size + 1 := by rw [ByteArray.size_append, z1]
  have s2 : (c ++ ⟨#[44]⟩ : ByteArray).size = c.size + 1 := by rw [ByteArray.size_append, z2]
  have s3 : (c ++ ⟨#[44]⟩ ++ m : ByteArray).size = c.size + 1 + m.size := by rw [ByteArray.size_append, s2]
  have s4 : (c ++ ⟨#[44]⟩ ++ m ++ ⟨#[47]⟩ : ByteArray).size = c.size + 1 + m.size + 1 := by rw [ByteArray.size_append, s3, z1]
  have s5 : (c ++ ⟨#[47]⟩ ++ k : ByteArray).size = c.size + 1 + k.size := by rw [ByteArray.size_append, s1]
  have s6 : (c ++ ⟨#[44]⟩ ++ m ++ ⟨#[47]⟩ ++ k : ByteArray).size = c.size + 1 + m.size + 1 + k.size := by rw [ByteArray.size_append, s4]
  refine longer (n := c.size) (n2 := c.size + 1 + m.size) hA hB (by omega) (by omega) (by omega) ?_ ?_ ?_ ?_ ?_ (by omega)
  · intro i hi
    rw [byteAt_left (by omega), byteAt_left (by omega), byteAt_left (by omega), byteAt_left (by omega), byteAt_left (by omega), byteAt_left (by omega)]
  · rw [byteAt_left (by omega)]
    have := byteAt_right c ⟨#[47]⟩ 0
    rw [Nat.add_zero] at this
    rw [this]; rfl
  · rw [byteAt_left (by omega), byteAt_left (by omega), byteAt_left (by omega)]
    have := byteAt_right c ⟨#[44]⟩ 0
    rw [Nat.add_zero] at this
    rw [this]; rfl
  · rw [byteAt_left (by omega)]
    have := byteAt_right (c ++ ⟨#[44]⟩ ++ m) ⟨#[47]⟩ 0
    rw [Nat.add_zero, s3] at this
    rw [this]; rfl
  · intro i
    have h1 := byteAt_right (c ++ ⟨#[47]⟩) k i
    have h2 := byteAt_right (c ++ ⟨#[44]⟩ ++ m ++ ⟨#[47]⟩) k i
    rw [s1] at h1
    rw [s4] at h2
    rw [h1, h2]

/-- How many are read. -/
theorem numsF_count {s : ByteArray} (n : Nat) : ∀ (st : St) (acc : List Nat), s.size - st.pos = n → (numsF s st acc).1.length ≤ acc.length + (s.size - st.pos) + 1 := by
  induction n using Nat.strongRecOn with
  | ind n ih =>
    intro st acc hn
    have hG := numF_ge s 3 st
    rw [numsF]
    split
    · simp only; omega
    · split
      · rename_i hq
        obtain ⟨_, _, h3, h4⟩ := nextF_in (by omega) hq
        rw [h4]
        have := ih (s.size - ((numF s 3 st).2.pos + 1)) (by omega) ⟨(numF s 3 st).2.pos + 1, false⟩ (acc ++ [(numF s 3 st).1]) rfl
        refine Nat.le_trans this ?_
        simp only [List.length_append, List.length_cons, List.length_nil]
        omega
      · simp only [List.length_append, List.length_cons, List.length_nil]; omega
theorem numbersF_count {s : ByteArray} {c : Nat} {st : St} : (numbersF s c st).1.length ≤ s.size + 1 := by
  unfold numbersF
  split
  · simp
  · have := numsF_count (s := s) _ st [] rfl
    simp only [List.length_nil] at this
    omega
theorem tablesF_len (s : ByteArray) (st : St) (acc : List TStp) : (tablesF s st acc).2.length ≤ acc.length + mT s st := by
  induction st, acc using tablesF.induct (s := s) with
  | case1 st acc hc ih =>
    rw [tablesF, dif_pos hc]
    have h := mT_lt hc.1 hc.2
    rw [List.length_append, List.length_cons, List.length_nil] at ih
    omega
  | case2 st acc hc =>
    rw [tablesF, dif_neg hc]
    simp only; omega
theorem tableF_len (s : ByteArray) : (tableF s).2.length ≤ 2 * s.size + 2 := by
  have h := tablesF_len s (theadF s).2 []
  have h2 : mT s (theadF s).2 ≤ 2 * s.size + 2 := by unfold mT; split <;> omega
  rw [List.length_nil] at h
  unfold tableF
  omega

end Hx
end Go.Proofs.YtppcnlkhdgmaiaaDoor
namespace Go.Proofs.YtppcnlkhdgmaiaaDoor
open Go.RowKit

theorem Hx.cutF_none (l : List UInt8) (h : ∀ b ∈ l, b ≠ 59) : Hx.cutF l = (l, []) := by
  induction l with
  | nil => rfl
  | cons b r ih => rw [Hx.cutF, if_neg (h b (by simp)), ih (fun c hc => h c (by simp [hc]))]
theorem Hx.cutF_there {l : List UInt8} {i : Nat} (hi : l[i]? = some 59) (h : ∀ j, j < i → l[j]? ≠ some 59) : Hx.cutF l = (l.take i, l.drop (i + 1)) := by
  induction l generalizing i with
  | nil => simp at hi
  | cons b r ih =>
    cases i with
    | zero =>
      simp at hi
      rw [Hx.cutF, if_pos hi]; simp
    | succ i =>
      have h0 := h 0 (by omega)
      simp at h0
      rw [Hx.cutF, if_neg h0, ih (by simpa using hi) (fun j hj => by have := h (j + 1) (by omega); simpa using this)]
      simp

set_option maxHeartbeats 1000000 in
theorem cut_any (s : ByteArray) (w : World) (hs : s.size ≤ 1000000000) :
    Calls Tryd.prog 28 #[.string s] w fun e w' => e = .returned (.tuple #[.string ⟨(Hx.cutF s.data.toList).1.toArray⟩, .string ⟨(Hx.cutF s.data.toList).2.toArray⟩]) ∧ ∃ n, w' = w.drewN n := by
  obtain ⟨FIN, hFIN⟩ : ∃ FIN, FIN = Hx.cutF s.data.toList := ⟨_, rfl⟩
  rw [← hFIN]
  have HFIN := hide hFIN
  clear hFIN
  go_enter Tryd.func28, Tryd.ntmps28
  go_wp2_with fail
  go_loopg [4] s.size (fun gk kk wr => ∃ i : Nat, i ≤ s.size ∧ gk = s.size - i ∧ kk = .int .i64 (i : Int) ∧ wr = w ∧ Hid (∀ j, j < i → s.data.toList[j]? ≠ some 59))
  case atStart => exact ⟨0, Nat.zero_le _, rfl, rfl, rfl, fun j hj => absurd hj (Nat.not_lt_zero _)⟩
  case round =>
    obtain ⟨i, hi, rfl, rfl, rfl, HN⟩ := hrel
    by_cases hlt : i < s.size
    · have hiI : (i : Int) < (s.size : Int) := by omega
      have hi0 : (0 : Int) ≤ (i : Int) := by omega
      by_cases hb : s[i] = 59
      · have HF : Hid (FIN = ((s.data.toList).take i, (s.data.toList).drop (i + 1))) := by
          show _ = _
          rw [unhide HFIN]
          refine Hx.cutF_there ?_ (unhide HN)
          rw [Array.getElem?_toList, Array.getElem?_eq_getElem hlt]
          exact congrArg some hb
        clear HFIN
        go_wp2_with fail
        go_quiet (fail)
        go_wp2_with fail
        go_returns
        rw [unhide HF]
        refine ⟨?_, _, rfl⟩
        have e1 : s.extract 0 i = ⟨(List.take i s.data.toList).toArray⟩ := by
          apply ByteArray.ext
          rw [ByteArray.data_extract]
          apply Array.ext'
          simp
        have e2 : s.extract (i + 1) s.size = ⟨(List.drop (i + 1) s.data.toList).toArray⟩ := by
          apply ByteArray.ext
          rw [ByteArray.data_extract]
          apply Array.ext'
          simp
          exact List.take_of_length_le (by simp)
        rw [e1, e2]
        rfl
      · have hbI : ((s[i].toNat : Int) == 59) = false := by
          rw [beq_eq_false_iff_ne]
          intro e
          apply hb
          apply UInt8.toNat_inj.1
          show s[i].toNat = 59
          omega
        have HN2 : Hid (∀ j, j < i + 1 → s.data.toList[j]? ≠ some 59) := fun j hj => by
          by_cases e : j = i
          · subst e
            rw [Array.getElem?_toList, Array.getElem?_eq_getElem hlt]
            exact fun g => hb (Option.some.inj g)
          · exact unhide HN j (by omega)
        clear HFIN HN hb
        go_wp2_with fail
        go_roundg (s.size - (i + 1))
        case measure => omega
        case rel => exact ⟨i + 1, by omega, rfl, by go_num, rfl, HN2⟩
    · have hiI : ¬ (i : Int) < (s.size : Int) := by omega
      have HF : Hid (FIN = (s.data.toList, [])) := by
        show _ = _
        rw [unhide HFIN]
        refine Hx.cutF_none _ (fun b hb e => ?_)
        obtain ⟨j, hj, e2⟩ := List.mem_iff_getElem.1 hb
        have hjs : j < s.size := by simpa using hj
        exact unhide HN j (by omega) (by rw [List.getElem?_eq_getElem hj, e2, e])
      clear HFIN HN
      go_wp2_with fail
      go_returns
      refine ⟨?_, 0, rfl⟩
      rw [unhide HF]
      show _ = Ending.returned (.tuple #[.string ⟨s.data.toList.toArray⟩, .string ⟨#[]⟩])
      rw [Array.toArray_toList]
      rfl

end Go.Proofs.YtppcnlkhdgmaiaaDoor
namespace Go.Proofs.YtppcnlkhdgmaiaaDoor
open Go.RowKit

theorem Hx.wrongF_zero {l : List Hx.TStp} (n : Nat) : ∀ k, l.length - k = n → (Hx.wrongF l k).1 = 0 → Hx.wrongF l k = (0, 0) := by
  induction n with
  | zero =>
    intro k hk h
    rw [Hx.wrongF, if_neg (by omega)]
  | succ n ih =>
    intro k hk h
    rw [Hx.wrongF, if_pos (by omega)] at h ⊢
    split at h
    · rename_i g
      rw [if_pos g]
      exact ih (k + 1) (by omega) h
    · simp at h
/-- What is known of a Run without an error. -/
theorem Hx.run_zero {s t : ByteArray} (h : (Hx.refRunF s t).2 = 0) :
    s.size ≤ 400 ∧ t.size ≤ 800 ∧ Hx.scrOk t = true ∧ (Hx.tableF s).1.bad = false ∧ Hx.Right (Hx.tableF s).2 ∧ (Hx.refRunF s t).1 = Hx.tellF (Hx.tableF s).2 (Hx.machF (Hx.tableF s).2 (Hx.theadF s).1 (Hx.scr1 t).1 (Hx.scr2 t).1) := by
  unfold Hx.refRunF at h ⊢
  split at h
  · simp at h
  · rename_i g1
    rw [if_neg g1]
    split at h
    · rename_i g2; exact absurd h g2
    · rename_i g2
      rw [if_neg g2]
      split at h
      · simp at h
      · rename_i g3
        rw [if_neg g3]
        have hl : (Hx.lookF s).1 = 0 := by
          rcases Int.instDecidableEq (Hx.lookF s).1 0 with g | g
          · exact absurd g g2
          · exact g
        unfold Hx.lookF at hl
        rw [if_neg (by omega)] at hl
        split at hl
        · simp at hl
        · rename_i g4
          have hr : Hx.Right (Hx.tableF s).2 := Hx.right_of (Hx.wrongF_zero _ 0 rfl hl)
          refine ⟨by omega, by omega, by simpa using g3, by simpa using g4, hr, ?_⟩
          rw [Hx.machine_is hr]
          rfl
/-- What Onward asks. -/
theorem Hx.onward {s c m k : ByteArray} (h1 : (Hx.refRunF s (c ++ ⟨#[47]⟩ ++ k)).2 = 0) (h2 : (Hx.refRunF s (c ++ ⟨#[44]⟩ ++ m ++ ⟨#[47]⟩ ++ k)).2 = 0) :
    ((Hx.cutF (Hx.refRunF s (c ++ ⟨#[47]⟩ ++ k)).1).1 ≠ [111, 112, 101, 110] → (Hx.refRunF s (c ++ ⟨#[47]⟩ ++ k)).1 = (Hx.refRunF s (c ++ ⟨#[44]⟩ ++ m ++ ⟨#[47]⟩ ++ k)).1) ∧
    (Hx.cutF (Hx.refRunF s (c ++ ⟨#[47]⟩ ++ k)).1).2 <+: (Hx.cutF (Hx.refRunF s (c ++ ⟨#[44]⟩ ++ m ++ ⟨#[47]⟩ ++ k)).1).2 := by
  obtain ⟨_, _, a3, _, a5, a6⟩ := Hx.run_zero h1
  obtain ⟨_, _, b3, _, _, b6⟩ := Hx.run_zero h2
  obtain ⟨⟨M, hM⟩, hT⟩ := Hx.longer_texts c m k a3 b3
  rw [a6, b6, hM, ← hT]
  exact Hx.onward_tell a5.ok _ _ M _

theorem Hx.told_len (s t : ByteArray) : (Hx.refRunF s t).1.length ≤ 1000000 := by
  by_cases h : (Hx.refRunF s t).2 = 0
  · obtain ⟨h1, h2, _, _, _, h6⟩ := Hx.run_zero h
    have c1 := Hx.numbersF_count (s := t) (c := 47) (st := ⟨0, false⟩)
    have c2 := sum_le_mul (Hx.scr1 t).1 (fun v hv => Hx.numbersF_lt v hv)
    have c3 : (Hx.scr1 t).1.length ≤ t.size + 1 := c1
    have lk := mach_lk (l := (Hx.tableF s).2) (J := (Hx.theadF s).1) (clock := (Hx.scr1 t).1) (takes := (Hx.scr2 t).1) (fun v hv => Hx.numbersF_lt v hv) (by omega)
    have e1 := evB_len (Hx.tableF s).2 (Hx.machF (Hx.tableF s).2 (Hx.theadF s).1 (Hx.scr1 t).1 (Hx.scr2 t).1).2.sts lk.st
    have e2 := lk.len
    have e3 := Hx.tableF_len s
    have e4 := outB_len (Hx.machF (Hx.tableF s).2 (Hx.theadF s).1 (Hx.scr1 t).1 (Hx.scr2 t).1).1
    rw [h6, Hx.tellF_head, List.length_append, List.length_cons]
    have e5 : (Hx.headB (Hx.tableF s).2 (Hx.machF (Hx.tableF s).2 (Hx.theadF s).1 (Hx.scr1 t).1 (Hx.scr2 t).1)).length ≤ 9 := by
      unfold Hx.headB
      rw [List.length_append]
      have : (if 2 ≤ (Hx.machF (Hx.tableF s).2 (Hx.theadF s).1 (Hx.scr1 t).1 (Hx.scr2 t).1).1 then [32] ++ Hx.nameAt (Hx.tableF s).2 (Hx.machF (Hx.tableF s).2 (Hx.theadF s).1 (Hx.scr1 t).1 (Hx.scr2 t).1).2.k else []).length ≤ 3 := by
        split
        · unfold Hx.nameAt
          split <;> simp [Hx.nmB]
        · simp
      omega
    omega
  · unfold Hx.refRunF at h ⊢
    split
    · simp
    · rename_i g1
      rw [if_neg g1] at h
      split
      · simp
      · rename_i g2
        rw [if_neg g2] at h
        split
        · simp
        · rename_i g3
          rw [if_neg g3] at h
          exact absurd rfl h
abbrev smpB : ByteArray := ⟨#[106, 49, 59, 97, 48, 64, 48, 43, 50, 45, 51, 62, 48, 59, 98, 48, 64, 52, 43, 49, 45, 49, 59, 97, 49, 64, 57, 43, 52, 45, 52, 60, 48, 58, 53, 45, 57]⟩
abbrev scrB1 : ByteArray := ⟨#[50, 44, 50, 44, 50, 44, 50, 44, 50, 44, 50, 44, 50, 44, 50, 47, 51, 44, 49, 44, 52]⟩
abbrev scrB2 : ByteArray := ⟨#[51, 44, 51, 44, 51, 47, 50, 44, 49, 44, 52]⟩
set_option maxRecDepth 100000 in
theorem Hx.ran1 : Hx.refRunF smpB scrB1 = ([100, 111, 110, 101, 59, 97, 48, 58, 48, 45, 51, 44, 98, 48, 58, 52, 45, 53, 44, 97, 49, 58, 49, 48, 45, 49, 52], 0) := by decide +kernel
set_option maxRecDepth 100000 in
theorem Hx.ran2 : Hx.refRunF smpB scrB2 = ([108, 97, 116, 101, 32, 98, 48, 59, 97, 48, 58, 48, 45, 50], 0) := by decide +kernel

theorem run_ex1 (w : World) (h : RunE w) : Calls Tryd.prog 27 #[.string smpB, .string scrB1] w fun e w' => e = .returned (.tuple #[.string ⟨#[100, 111, 110, 101, 59, 97, 48, 58, 48, 45, 51, 44, 98, 48, 58, 52, 45, 53, 44, 97, 49, 58, 49, 48, 45, 49, 52]⟩, .int .i64 0]) ∧ Below w.heap.size w w' := by
  have := run_any smpB scrB1 w (by decide) (by decide) h.1 h.2.1 h.2.2
  rw [Hx.ran1] at this
  exact this
theorem run_ex2 (w : World) (h : RunE w) : Calls Tryd.prog 27 #[.string smpB, .string scrB2] w fun e w' => e = .returned (.tuple #[.string ⟨#[108, 97, 116, 101, 32, 98, 48, 59, 97, 48, 58, 48, 45, 50]⟩, .int .i64 0]) ∧ Below w.heap.size w w' := by
  have := run_any smpB scrB2 w (by decide) (by decide) h.1 h.2.1 h.2.2
  rw [Hx.ran2] at this
  exact this

set_option maxRecDepth 100000 in
set_option maxHeartbeats 1000000 in
theorem ran_any (w : World) (h : RunE w) : Calls Tryd.prog 26 #[] w fun e w' => e = .returned (.bool true) ∧ Below w.heap.size w w' := by
  have HR1 := hide (run_ex1 w h)
  have HE := hide h
  clear h
  go_enter Tryd.func26, Tryd.ntmps26
  go_wp2_with fail
  refine (unhide HR1).mono ?_
  rintro e w1 ⟨rfl, hb1⟩
  have HE1 := hide (lasts_run _ _ (unhide HE) hb1)
  have HB1 := hide hb1
  clear hb1
  go_wp2_with fail
  refine (run_ex2 w1 (unhide HE1)).mono ?_
  rintro e w2 ⟨rfl, hb2⟩
  have HB2 := hide ((unhide HB1).trans (hb2.mono (unhide HB1).size))
  clear hb2
  go_wp2_with fail
  go_returns
  exact ⟨rfl, unhide HB2⟩

set_option maxRecDepth 100000 in
set_option maxHeartbeats 4000000 in
theorem onward_any (s c m k : ByteArray) (w : World) (hs : s.size ≤ reachBytes) (hc : c.size ≤ reachBytes) (hm : m.size ≤ reachBytes) (hk : k.size ≤ reachBytes) (hE : RunE w) :
    Calls Tryd.prog 9 #[.string s, .string c, .string m, .string k] w fun e w' => e = .returned (.bool true) ∧ Below w.heap.size w w' := by
  unfold reachBytes at hs hc hm hk
  obtain ⟨A, hA⟩ : ∃ A, A = Hx.refRunF s (c ++ ⟨#[47]⟩ ++ k) := ⟨_, rfl⟩
  obtain ⟨B, hB⟩ : ∃ B, B = Hx.refRunF s (c ++ ⟨#[44]⟩ ++ m ++ ⟨#[47]⟩ ++ k) := ⟨_, rfl⟩
  have z1 : (⟨#[47]⟩ : ByteArray).size = 1 := rfl
  have z2 : (⟨#[44]⟩ : ByteArray).size = 1 := rfl
  have hA1 : (c ++ ⟨#[47]⟩ ++ k : ByteArray).size ≤ maxLen := by unfold maxLen; rw [ByteArray.size_append, ByteArray.size_append, z1]; omega
  have hB1 : (c ++ ⟨#[44]⟩ ++ m ++ ⟨#[47]⟩ ++ k : ByteArray).size ≤ maxLen := by unfold maxLen; rw [ByteArray.size_append, ByteArray.size_append, ByteArray.size_append, ByteArray.size_append, z1, z2]; omega
  have HRA : Hid (∀ w', RunE w' → Calls Tryd.prog 27 #[.string s, .string (c ++ ⟨#[47]⟩ ++ k)] w' fun e w2 => e = .returned (.tuple #[.string ⟨A.1.toArray⟩, .int .i64 A.2]) ∧ Below w'.heap.size w' w2) := by
    intro w' h; rw [hA]; exact run_any _ _ w' (by unfold maxLen; omega) hA1 h.1 h.2.1 h.2.2
  have HRB : Hid (∀ w', RunE w' → Calls Tryd.prog 27 #[.string s, .string (c ++ ⟨#[44]⟩ ++ m ++ ⟨#[47]⟩ ++ k)] w' fun e w2 => e = .returned (.tuple #[.string ⟨B.1.toArray⟩, .int .i64 B.2]) ∧ Below w'.heap.size w' w2) := by
    intro w' h; rw [hB]; exact run_any _ _ w' (by unfold maxLen; omega) hB1 h.1 h.2.1 h.2.2
  have HON : Hid (A.2 = 0 → B.2 = 0 → ((Hx.cutF A.1).1 ≠ [111, 112, 101, 110] → A.1 = B.1) ∧ (Hx.cutF A.1).2 <+: (Hx.cutF B.1).2) := by
    intro h1 h2
    rw [hA] at h1
    rw [hB] at h2
    rw [hA, hB]
    exact Hx.onward h1 h2
  have HLA : Hid (A.1.length ≤ 1000000) := by show _ ≤ _; rw [hA]; exact Hx.told_len _ _
  have HLB : Hid (B.1.length ≤ 1000000) := by show _ ≤ _; rw [hB]; exact Hx.told_len _ _
  clear hA hB hA1 hB1 z1 z2
  have HR0 := hide (ran_any w hE)
  have HE := hide hE
  clear hE
  have n1 : ¬ 9223372036854775807 < c.size + 1 := by omega
  have n2 : ¬ 9223372036854775807 < c.size + 1 + k.size := by omega
  have n3 : ¬ 9223372036854775807 < c.size + 1 + m.size := by omega
  have n4 : ¬ 9223372036854775807 < c.size + 1 + m.size + 1 := by omega
  have n5 : ¬ 9223372036854775807 < c.size + 1 + m.size + 1 + k.size := by omega
  go_enter Tryd.func9, Tryd.ntmps9
  go_wp2_with fail
  refine (unhide HR0).mono ?_
  rintro e w1 ⟨rfl, hb1⟩
  have HE1 := hide (lasts_run _ _ (unhide HE) hb1)
  have HB1 := hide hb1
  clear hb1
  go_wp2_with fail
  refine (unhide HRA w1 (unhide HE1)).mono ?_
  rintro e w2 ⟨rfl, hb2⟩
  have HE2 := hide (lasts_run _ _ (unhide HE1) hb2)
  have HB2 := hide ((unhide HB1).trans (hb2.mono (unhide HB1).size))
  clear hb2
  go_wp2_with fail
  refine (unhide HRB w2 (unhide HE2)).mono ?_
  rintro e w3 ⟨rfl, hb3⟩
  have HB3 := hide ((unhide HB2).trans (hb3.mono (unhide HB2).size))
  clear hb3 HRA HRB HR0 HE HE1 HE2 HB1 HB2
  obtain ⟨a1, a2⟩ := A
  obtain ⟨b1, b2⟩ := B
  simp only at HON HLA HLB ⊢
  by_cases ha : a2 = 0
  · subst ha
    by_cases hb : b2 = 0
    · subst hb
      obtain ⟨o1, o2⟩ := unhide HON rfl rfl
      clear HON
      go_wp2_with fail
      refine (cut_any ⟨a1.toArray⟩ w3 (Nat.le_trans (unhide HLA) (by omega))).mono ?_
      rintro e w4 ⟨rfl, n, hw4⟩
      have HB4 : Hid (Below w.heap.size w w4) := by rw [hw4]; exact below_drewN (unhide HB3) n
      clear hw4
      go_wp2_with fail
      refine (cut_any ⟨b1.toArray⟩ w4 (Nat.le_trans (unhide HLB) (by omega))).mono ?_
      rintro e w5 ⟨rfl, n5', hw5⟩
      have HB5 : Hid (Below w.heap.size w w5) := by rw [hw5]; exact below_drewN (unhide HB4) n5'
      clear hw5
      have hda : (⟨a1.toArray⟩ : ByteArray).data.toList = a1 := by simp
      have hdb : (⟨b1.toArray⟩ : ByteArray).data.toList = b1 := by simp
      rw [hdb]
      obtain ⟨how, rest, hca⟩ : ∃ how rest, Hx.cutF a1 = (how, rest) := ⟨_, _, rfl⟩
      obtain ⟨how2, aft, hcb⟩ : ∃ how rest, Hx.cutF b1 = (how, rest) := ⟨_, _, rfl⟩
      rw [hca, hcb] at o2
      rw [hca] at o1
      rw [hca, hcb]
      simp only at o1 o2 ⊢
      clear hda hdb hca hcb
      by_cases hop : how = [111, 112, 101, 110]
      · subst hop
        clear o1
        have hle : rest.length ≤ aft.length := o2.length_le
        have hex : ((⟨aft.toArray⟩ : ByteArray).extract 0 rest.length).toList == rest := by
          obtain ⟨z, rfl⟩ := o2
          have e1 : (⟨(rest ++ z).toArray⟩ : ByteArray).extract 0 rest.length = ⟨rest.toArray⟩ := by
            apply ByteArray.ext
            rw [ByteArray.data_extract]
            apply Array.ext'
            simp
          rw [e1]
          simp
        have HOK := hide o2
        clear o2
        go_wp2_with fail
        go_returns
        exact ⟨rfl, unhide HB5⟩
      · have HEQ := o1 hop
        subst HEQ
        clear o1 o2
        have hno : (!how == [111, 112, 101, 110]) = true := by simpa using hop
        clear hop
        go_wp2_with fail
        go_returns
        exact ⟨rfl, unhide HB5⟩
    · have hbI : (b2 != 0) = true := by simpa using hb
      clear HON hb
      go_wp2_with fail
      go_returns
      exact ⟨rfl, unhide HB3⟩
  · have haI : (a2 != 0) = true := by simpa using ha
    clear HON ha
    go_wp2_with fail
    go_returns
    exact ⟨rfl, unhide HB3⟩

end Go.Proofs.YtppcnlkhdgmaiaaDoor
namespace Go.Proofs.YtppcnlkhdgmaiaaDoor
open Go.RowKit

/-- What P8 says of what was told. -/
structure Hx.SafeP (E : List Hx.Ent) (J : Nat) (V : List Hx.Evt) (how : List UInt8) : Prop where
  j : J < 10
  es : Hx.EntS E
  vs : Hx.EvtS V
  el : E.length ≤ 1001
  len : V.length ≤ E.length
  same : ∀ (k : Nat) (x : Hx.Ent) (y : Hx.Evt), E[k]? = some x → V[k]? = some y → y.pl = x.pl ∧ y.no = x.no
  apart : ∀ (k : Nat) (y y' : Hx.Evt), V[k + 1]? = some y → V[k]? = some y' → 0 ≤ y'.en ∧ y'.en ≤ y.fr
  held : how = [100, 111, 110, 101] → Hx.HeldP E J V
  told : how = [100, 111, 110, 101] ∨ how = [111, 112, 101, 110] ∨ 6 < how.length

theorem Hx.evs_at {l : List Hx.TStp} {sts : List (Nat × Option Nat)} {k : Nat} {y : Hx.Evt} (h : (List.zipWith Hx.evOf l sts)[k]? = some y) : ∃ x e, l[k]? = some x ∧ sts[k]? = some e ∧ y = Hx.evOf x e := by
  rw [List.getElem?_zipWith] at h
  cases h1 : l[k]? with
  | none => rw [h1] at h; simp at h
  | some x =>
    cases h2 : sts[k]? with
    | none => rw [h1, h2] at h; simp at h
    | some e => rw [h1, h2] at h; simp at h; exact ⟨x, e, rfl, rfl, h.symm⟩
theorem Hx.ents_at {l : List Hx.TStp} {k : Nat} {x : Hx.Ent} (h : (l.map Hx.entOf)[k]? = some x) : ∃ z, l[k]? = some z ∧ x = Hx.entOf z := by
  rw [List.getElem?_map] at h
  cases h1 : l[k]? with
  | none => rw [h1] at h; cases h
  | some z => rw [h1] at h; simp at h; exact ⟨z, rfl, h.symm⟩
theorem Hx.rest_iff {x : Hx.TStp} (h : Hx.TOk x) : 0 ≤ x.out → x.rest = true := by
  intro g
  cases hr : x.rest
  · have := (h.norest hr).2.2; omega
  · rfl
theorem Hx.safeP_of {l : List Hx.TStp} (hr : Hx.Right l) (hl : l.length ≤ 1001) {J : Nat} (hJ : J < 10) {clock takes : List Nat} (hk : ∀ n ∈ takes, n < 1000) (hc : clock.sum ≤ 1000000) :
    Hx.SafeP (l.map Hx.entOf) J (List.zipWith Hx.evOf l (Hx.machF l J clock takes).2.sts) (Hx.headB l (Hx.machF l J clock takes)) := by
  have lk := mach_lk (l := l) (J := J) (clock := clock) (takes := takes) hk hc
  have sf := Hx.mach_safe hr J clock takes
  generalize Hx.machF l J clock takes = r at lk sf
  obtain ⟨so, h1, _, h6, hkl⟩ := sf
  have hlen : (List.zipWith Hx.evOf l r.2.sts).length = r.2.sts.length := by rw [List.length_zipWith]; have := so.sl; omega
  have hnm : 2 ≤ r.1 → (Hx.nameAt l r.2.k).length = 2 := fun h => by
    unfold Hx.nameAt
    rw [List.getElem?_eq_getElem (hkl h)]
    rfl
  refine ⟨hJ, fun x hx => ?_, fun y hy => ?_, by rw [List.length_map]; exact hl, by rw [hlen, List.length_map]; exact so.sl, fun k x y hx hy => ?_, fun k y y' hy hy' => ?_, fun hd => ?_, ?_⟩
  · obtain ⟨z, hz, rfl⟩ := List.mem_map.1 hx
    have o := hr.ok z hz
    have o1 := o.pl
    have o2 := o.no
    have o3 := o.t
    have o4 := o.lo
    have o5 := o.hi
    have o6 := o.mn
    have o7 := o.mx
    have o8 := o.inn0
    have o9 := o.inn1
    have o10 : -1 ≤ z.out ∧ z.out ≤ 9 := by
      cases hrest : z.rest
      · have := (o.norest hrest).2.2; omega
      · have := o.rest hrest; omega
    show z.pl < 1000 ∧ z.no < 1000000000 ∧ z.t < 1000000000 ∧ z.lo < 1000000000 ∧ z.hi < 1000000000 ∧ z.mn < 1000000000 ∧ z.mx < 1000000000 ∧ -1 ≤ z.out ∧ z.out < 1000000000 ∧ -1 ≤ z.inn ∧ z.inn < 1000000000
    omega
  · obtain ⟨k, hk⟩ := List.getElem?_of_mem hy
    obtain ⟨z, e, a1, a2, rfl⟩ := Hx.evs_at hk
    have o := hr.ok z (List.mem_of_getElem? a1)
    have o1 := o.pl
    have o2 := o.no
    obtain ⟨b1, b2⟩ := lk.st e (List.mem_of_getElem? a2)
    show z.pl < 1000 ∧ z.no < 1000000000 ∧ e.1 < 1000000000 ∧ -1 ≤ Hx.evTo e.2 ∧ Hx.evTo e.2 < 1000000000
    refine ⟨by omega, by omega, by omega, ?_⟩
    cases hv : e.2 with
    | none => exact ⟨by show (-1 : Int) ≤ -1; omega, by show (-1 : Int) < _; omega⟩
    | some v =>
      have := b2 v hv
      exact ⟨by show (-1 : Int) ≤ (v : Int); omega, by show (v : Int) < _; omega⟩
  · obtain ⟨z, a1, rfl⟩ := Hx.ents_at hx
    obtain ⟨z', e, a2, a3, rfl⟩ := Hx.evs_at hy
    rw [a1] at a2
    cases a2
    exact ⟨rfl, rfl⟩
  · obtain ⟨z, e, a1, a2, rfl⟩ := Hx.evs_at hy
    obtain ⟨z', e', a3, a4, rfl⟩ := Hx.evs_at hy'
    obtain ⟨b0, e0, c1, c2⟩ := so.ord k e.1 e.2 a2
    rw [a4] at c1
    cases c1
    show 0 ≤ (e0 : Int) ∧ (e0 : Int) ≤ (e.1 : Int)
    omega
  · have hr1 : r.1 = 1 := by
      unfold Hx.headB at hd
      by_cases h2 : 2 ≤ r.1
      · rw [if_pos h2] at hd
        have := congrArg List.length hd
        rw [List.length_append, List.length_append, hnm h2] at this
        simp at this
        have h0 : (Hx.outB r.1).length = 1 := by omega
        have h3 : 4 ≤ (Hx.outB r.1).length := by
          generalize r.1 = n
          unfold Hx.outB
          split <;> simp
        omega
      · rw [if_neg h2, List.append_nil] at hd
        have : r.1 = 0 ∨ r.1 = 1 := by omega
        rcases this with h | h
        · rw [h] at hd; simp [Hx.outB] at hd
        · exact h
    have hkk := h1 hr1
    have hfin := so.fin
    rw [hkk] at hfin
    refine ⟨by rw [hlen, List.length_map]; have := so.sl; have := so.ks; omega, fun k x y hx hy => ?_, fun k i x x' y y' hx hy ho hik hx' hy' hp hn => ?_⟩
    · obtain ⟨z, a1, rfl⟩ := Hx.ents_at hx
      obtain ⟨z', e, a2, a3, rfl⟩ := Hx.evs_at hy
      obtain ⟨x0, b, en, c1, c2, c3, c4, c5, c6, _⟩ := hfin k (Hx.at_lt a1)
      rw [a1] at c1
      cases c1
      rw [a3] at c2
      cases c2
      show (z.lo : Int) ≤ (en : Int) - (b : Int) ∧ (en : Int) - (b : Int) ≤ (z.hi : Int) ∧ (z.t : Int) ≤ (b : Int) ∧ (b : Int) ≤ (z.t : Int) + (J : Int)
      omega
    · obtain ⟨z, a1, rfl⟩ := Hx.ents_at hx
      obtain ⟨zz, e, a2, a3, rfl⟩ := Hx.evs_at hy
      obtain ⟨z', a4, rfl⟩ := Hx.ents_at hx'
      obtain ⟨zz', e', a5, a6, rfl⟩ := Hx.evs_at hy'
      obtain ⟨x0, b, en, c1, c2, c3, c4, c5, c6, c7⟩ := hfin k (Hx.at_lt a1)
      rw [a1] at c1
      cases c1
      rw [a3] at c2
      cases c2
      obtain ⟨x1, b1, en1, d1, d2, _⟩ := hfin i (Hx.at_lt a4)
      rw [a6] at d2
      cases d2
      exact c7 (Hx.rest_iff (hr.ok z (List.mem_of_getElem? a1)) ho) i z' b1 en1 hik a4 hp hn a6
  · unfold Hx.headB
    by_cases h2 : 2 ≤ r.1
    · rw [if_pos h2]
      refine Or.inr (Or.inr ?_)
      rw [List.length_append, List.length_append, hnm h2]
      have h3 : 4 ≤ (Hx.outB r.1).length := by
        generalize r.1 = n
        unfold Hx.outB
        split <;> simp
      simp
      omega
    · rw [if_neg h2, List.append_nil]
      have : r.1 = 0 ∨ r.1 = 1 := by omega
      rcases this with h | h
      · rw [h]; exact Or.inr (Or.inl rfl)
      · rw [h]; exact Or.inl rfl

/-- What is known of a Run without an error. -/
theorem Hx.safe_run {s t : ByteArray} (h : (Hx.refRunF s t).2 = 0) :
    s.size ≤ 400 ∧ (Hx.scAll s).1.bad = false ∧ ∃ how ev V q, Hx.cutF (Hx.refRunF s t).1 = (how, ev) ∧ Hx.evsF ⟨ev.toArray⟩ = (⟨q, false⟩, V) ∧ Hx.SafeP (Hx.scAll s).2 (Hx.scHead s).1 V how := by
  obtain ⟨h1, h2, _, h4, h5, h6⟩ := Hx.run_zero h
  obtain ⟨e1, e2⟩ := Hx.table_sc h4
  have c1 := Hx.numbersF_count (s := t) (c := 47) (st := ⟨0, false⟩)
  have c2 := sum_le_mul (Hx.scr1 t).1 (fun v hv => Hx.numbersF_lt v hv)
  have c3 : (Hx.scr1 t).1.length ≤ t.size + 1 := c1
  have hk : ∀ n ∈ (Hx.scr2 t).1, n < 1000 := fun v hv => Hx.numbersF_lt v hv
  have hc : (Hx.scr1 t).1.sum ≤ 1000000 := by omega
  have lk := mach_lk (l := (Hx.tableF s).2) (J := (Hx.theadF s).1) (clock := (Hx.scr1 t).1) (takes := (Hx.scr2 t).1) hk hc
  have e3 := Hx.tableF_len s
  obtain ⟨q, e4⟩ := Hx.ev_read (l := (Hx.tableF s).2) (sts := (Hx.machF (Hx.tableF s).2 (Hx.theadF s).1 (Hx.scr1 t).1 (Hx.scr2 t).1).2.sts) h5.ok (fun e he => by
    obtain ⟨b1, b2⟩ := lk.st e he
    exact ⟨by omega, fun v hv => by have := b2 v hv; omega⟩)
  refine ⟨h1, by rw [e2]; exact h4, _, _, _, q, by rw [h6]; exact Hx.cut_tell h5.ok _, e4, ?_⟩
  rw [e1, e2]
  exact Hx.safeP_of h5 (by omega) (Hx.numF_val s 1 _) hk hc

set_option maxRecDepth 100000 in
set_option maxHeartbeats 4000000 in
theorem safe_any (s t : ByteArray) (w : World) (hs : s.size ≤ reachBytes) (ht : t.size ≤ reachBytes) (hE : RunE w) :
    Calls Tryd.prog 8 #[.string s, .string t] w fun e w' => e = .returned (.bool true) ∧ Below w.heap.size w w' := by
  unfold reachBytes at hs ht
  obtain ⟨A, hA⟩ : ∃ A, A = Hx.refRunF s t := ⟨_, rfl⟩
  have HRA : Hid (∀ w', RunE w' → Calls Tryd.prog 27 #[.string s, .string t] w' fun e w2 => e = .returned (.tuple #[.string ⟨A.1.toArray⟩, .int .i64 A.2]) ∧ Below w'.heap.size w' w2) := by
    intro w' h; rw [hA]; exact run_any _ _ w' (by unfold maxLen; omega) (by unfold maxLen; omega) h.1 h.2.1 h.2.2
  have HSF : Hid (A.2 = 0 → s.size ≤ 400 ∧ (Hx.scAll s).1.bad = false ∧ ∃ how ev V q, Hx.cutF A.1 = (how, ev) ∧ Hx.evsF ⟨ev.toArray⟩ = (⟨q, false⟩, V) ∧ Hx.SafeP (Hx.scAll s).2 (Hx.scHead s).1 V how) := by
    intro h; rw [hA] at h ⊢; exact Hx.safe_run h
  have HLA : Hid (A.1.length ≤ 1000000) := by show _ ≤ _; rw [hA]; exact Hx.told_len _ _
  have HNE : Hid (A.2 ≠ 0 → A.1 = []) := by
    intro h
    rw [hA] at h ⊢
    unfold Hx.refRunF at h ⊢
    split
    · rfl
    · rename_i g1
      rw [if_neg g1] at h
      split
      · rfl
      · rename_i g2
        rw [if_neg g2] at h
        split
        · rfl
        · rename_i g3
          rw [if_neg g3] at h
          exact absurd rfl h
  clear hA
  have HR0 := hide (ran_any w hE)
  have HE := hide hE
  clear hE
  go_enter Tryd.func8, Tryd.ntmps8
  go_wp2_with fail
  refine (unhide HR0).mono ?_
  rintro e w1 ⟨rfl, hb1⟩
  have HE1 := hide (lasts_run _ _ (unhide HE) hb1)
  have HB1 := hide hb1
  clear hb1
  go_wp2_with fail
  refine (unhide HRA w1 (unhide HE1)).mono ?_
  rintro e w2 ⟨rfl, hb2⟩
  have HB2 := hide ((unhide HB1).trans (hb2.mono (unhide HB1).size))
  clear hb2 HRA HR0 HE HE1 HB1
  obtain ⟨a1, a2⟩ := A
  simp only at HSF HLA HNE ⊢
  by_cases ha : a2 = 0
  · subst ha
    obtain ⟨h400, hbad, how, ev, V, q, hcut, hevs, hsp⟩ := unhide HSF rfl
    have HSP := hide hsp
    have HEV := hide hevs
    have HBAD := hide hbad
    have HCUT := hide hcut
    have HEL : Hid (ev.length ≤ 1000000) := by
      show _ ≤ _
      have h1 : a1.length ≤ 1000000 := unhide HLA
      have h2 : ∀ l : List UInt8, (Hx.cutF l).2.length ≤ l.length := by
        intro l
        induction l with
        | nil => simp [Hx.cutF]
        | cons b r ih =>
          rw [Hx.cutF]
          split
          · simp
          · simp only [List.length_cons]; omega
      have := h2 a1
      rw [hcut] at this
      exact Nat.le_trans this h1
    clear hsp hevs hbad hcut HSF HNE
    go_wp2_with fail
    refine (entries_any s w2 (by omega)).mono ?_
    rintro e w3 ⟨hb3, v3, rfl, ho3, _⟩
    have HB3 := hide ((unhide HB2).trans (hb3.mono (unhide HB2).size))
    have HO3 := hide (own_mono ho3 (Nat.zero_le _))
    clear hb3 ho3
    rw [unhide HBAD]
    generalize (Hx.scAll s).2 = E at HSP HO3
    generalize (Hx.scHead s).1 = J at HSP ⊢
    go_wp2_with fail
    refine (cut_any ⟨a1.toArray⟩ w3 (Nat.le_trans (unhide HLA) (by omega))).mono ?_
    rintro e w4 ⟨rfl, n4, hw4⟩
    have hd4 : Dr w3 w4 := ⟨n4, hw4⟩
    have HB4 := hide (hd4.below (unhide HB3))
    have HO4 : Hid (w4.ownsRow 0 55 9 v3 E.length (entsCells E)) := own_below (unhide HO3) (hd4.below (Below.refl _ _))
    clear hw4 hd4 HO3 HB3
    have hda : (⟨a1.toArray⟩ : ByteArray).data.toList = a1 := by simp
    rw [hda, unhide HCUT]
    clear hda
    go_wp2_with fail
    refine (events_any ⟨ev.toArray⟩ w4 (Nat.le_trans (unhide HEL) (by omega))).mono ?_
    rintro e w5 ⟨hb5, v5, rfl, ho5, _⟩
    rw [unhide HEV] at ho5 ⊢
    simp only at ho5 ⊢
    have HB5 := hide ((unhide HB4).trans (hb5.mono (unhide HB4).size))
    have HO5 := hide (own_below (unhide HO4) hb5)
    have HV5 := hide (own_mono ho5 (Nat.zero_le _))
    clear hb5 ho5 HO4 HB4 HEV HEL HCUT HLA HBAD
    obtain ⟨ao, cap, rfl⟩ := own_form (unhide HO5)
    obtain ⟨bo, cap2, rfl⟩ := own_form (unhide HV5)
    have hEl := (unhide HSP).el
    have hVl := (unhide HSP).len
    have hJ := (unhide HSP).j
    go_wp2_with fail
    go_loopg [15] V.length (fun gk kk wr => ∃ k : Nat, k ≤ V.length ∧ gk = V.length - k ∧ kk = .int .i64 (k : Int) ∧ Hid (Dr w5 wr))
    case atStart => exact ⟨0, Nat.zero_le _, rfl, rfl, by show Dr _ _; repeat (first | exact Dr.refl _ | apply Dr.more | apply Dr.drew)⟩
    case round =>
      obtain ⟨k, hk, rfl, rfl, HW⟩ := hrel
      by_cases hlt : k < V.length
      · have hltI : (k : Int) < (V.length : Int) := by omega
        have hltE : (k : Int) < (E.length : Int) := by omega
        obtain ⟨x, hx⟩ : ∃ x, E[k]? = some x := ⟨E[k], List.getElem?_eq_getElem (by omega)⟩
        obtain ⟨y, hy⟩ : ∃ y, V[k]? = some y := ⟨V[k], List.getElem?_eq_getElem hlt⟩
        obtain ⟨gt, capt, et, _, hgt⟩ := own_pos (unhide HO5) (by omega)
        cases et
        obtain ⟨gv, capv, ev, _, hgv⟩ := own_pos (unhide HV5) (by omega)
        cases ev
        have cx : ∀ t, t < 9 → wr.cell? ⟨gt, k * 9 + t, none⟩ = (entCells x)[t]? := fun t h => by rw [(unhide HW).cell]; exact own_at entCells 9 (fun _ => rfl) (unhide HO5) rfl k x hx t h
        have cy : ∀ t, t < 4 → wr.cell? ⟨gv, k * 4 + t, none⟩ = (evtCells y)[t]? := fun t h => by rw [(unhide HW).cell]; exact own_at evtCells 4 (fun _ => rfl) (unhide HV5) rfl k y hy t h
        obtain ⟨p1, p2⟩ := (unhide HSP).same k x y hx hy
        have x0 : wr.cell? ⟨gt, k * 9, none⟩ = some (.int .i64 (x.pl : Int)) := cx 0 (by omega)
        have x1 : wr.cell? ⟨gt, k * 9 + 1, none⟩ = some (.int .i64 (x.no : Int)) := cx 1 (by omega)
        have y0 : wr.cell? ⟨gv, k * 4, none⟩ = some (.int .i64 (x.pl : Int)) := by rw [← p1]; exact cy 0 (by omega)
        have y1 : wr.cell? ⟨gv, k * 4 + 1, none⟩ = some (.int .i64 (x.no : Int)) := by rw [← p2]; exact cy 1 (by omega)
        have y2 : wr.cell? ⟨gv, k * 4 + 2, none⟩ = some (.int .i64 (y.fr : Int)) := cy 2 (by omega)
        have HX := hide hx
        have HY := hide hy
        clear cx cy p1 p2 hx hy
        cases k with
        | zero =>
          go_wp2_with fail
          go_quiet (fail)
          go_wp2_with fail
          go_quiet (fail)
          go_wp2_with fail
          go_roundg (V.length - 1)
          case measure => omega
          case rel => exact ⟨1, by omega, rfl, by go_num, by show Dr _ _; repeat (first | exact unhide HW | apply Dr.more | apply Dr.drew)⟩
        | succ k =>
          obtain ⟨y', hy'⟩ : ∃ y, V[k]? = some y := ⟨V[k], List.getElem?_eq_getElem (by omega)⟩
          have z3 : wr.cell? ⟨gv, k * 4 + 3, none⟩ = some (.int .i64 y'.en) := by rw [(unhide HW).cell]; exact own_at evtCells 4 (fun _ => rfl) (unhide HV5) rfl k y' hy' 3 (by omega)
          obtain ⟨q1, q2⟩ := (unhide HSP).apart k y y' (unhide HY) hy'
          have hkI : (0 : Int) < ((k + 1 : Nat) : Int) := by omega
          have hwI : IntKind.i64.wrap (((k + 1 : Nat) : Int) - 1) = (k : Int) := by
            rw [show ((k + 1 : Nat) : Int) - 1 = (k : Int) by omega]
            exact IntWalk.i64_in _ ⟨by omega, by omega⟩
          have hk1 : (0 : Int) ≤ (k : Int) := by omega
          have hk2 : (k : Int) < (V.length : Int) := by omega
          have d1 : decide (y'.en < 0) = false := by simp; omega
          have d2 : decide ((y.fr : Int) < y'.en) = false := by simp; omega
          clear q1 q2 hy'
          go_wp2_with fail
          go_quiet (fail)
          go_wp2_with fail
          go_quiet (fail)
          go_wp2_with fail
          go_roundg (V.length - (k + 1 + 1))
          case measure => omega
          case rel => exact ⟨k + 1 + 1, by omega, rfl, by go_num, by show Dr _ _; repeat (first | exact unhide HW | apply Dr.more | apply Dr.drew)⟩
      · have hltI : ¬ (k : Int) < (V.length : Int) := by omega
        by_cases hdn : how = [100, 111, 110, 101]
        · have hh := (unhide HSP).held hdn
          subst hdn
          have HH := hide hh
          clear hh
          go_wp2_with fail
          refine (held_any E J V _ _ wr (by omega) (unhide HSP).es (unhide HSP).vs (by omega) ?_ ?_ (unhide HH)).mono ?_
          · exact own_below (unhide HO5) ((unhide HW).below (Below.refl _ _))
          · exact own_below (unhide HV5) ((unhide HW).below (Below.refl _ _))
          rintro e w6 ⟨rfl, hd6⟩
          have HB6 := hide (hd6.below ((unhide HW).below (unhide HB5)))
          clear hd6
          go_wp2_with fail
          go_returns
          exact ⟨rfl, unhide HB6⟩
        · have hno : (how == [100, 111, 110, 101]) = false := by simpa using hdn
          have hB6 := (unhide HW).below (unhide HB5)
          have HB6 := hide hB6
          clear hB6
          rcases (unhide HSP).told with h | h | h
          · exact absurd h hdn
          · subst h
            clear hdn hno
            go_wp2_with fail
            go_returns
            exact ⟨rfl, unhide HB6⟩
          · have h6 : (6 : Int) < (how.length : Int) := by omega
            clear hdn
            by_cases hop : (how == [111, 112, 101, 110]) = true
            · go_wp2_with fail
              go_returns
              exact ⟨rfl, unhide HB6⟩
            · have hop2 : (how == [111, 112, 101, 110]) = false := by simpa using hop
              clear hop
              go_wp2_with fail
              go_returns
              exact ⟨rfl, unhide HB6⟩
  · have haI : (a2 != 0) = true := by simpa using ha
    have hnil := unhide HNE ha
    subst hnil
    clear HSF HNE ha
    go_wp2_with fail
    go_returns
    exact ⟨rfl, unhide HB2⟩
end Go.Proofs.YtppcnlkhdgmaiaaDoor
