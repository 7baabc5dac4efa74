/- The plain mathematics of the machine: what it comes to, look by look, is what the document says, step by step, of a right table. No program is named here. -/
import Derived.Test.YtppcnlkhdgmaiaaGreatDoorPm
namespace Go.Proofs.YtppcnlkhdgmaiaaGreatDoor
namespace Hx

/-- Where a plate is in a place, both know when its rest began. -/
def Same (pre : List TStp) (rb over : List Int) : Prop := rb.length = 4 ∧ over.length = 4 ∧ ∀ p, 0 ≤ (holdF pre p).1 → rb.getD p 0 = over.getD p 0

theorem holdF_nil (p : Nat) : holdF [] p = (-1, 0) := rfl
theorem Same.start : Same [] [0, 0, 0, 0] [0, 0, 0, 0] := ⟨rfl, rfl, fun _ _ => rfl⟩
theorem getD_set {α : Type} (l : List α) (p q : Nat) (v d : α) (hp : p < l.length) : (l.set p v).getD q d = if q = p then v else l.getD q d := by
  rw [List.getD_eq_getElem?_getD, List.getElem?_set, List.getD_eq_getElem?_getD]
  by_cases e : p = q
  · subst e; simp [hp]
  · rw [if_neg e, if_neg (fun h => e h.symm)]
theorem Same.snoc {pre : List TStp} {rb over : List Int} (h : Same pre rb over) {x : TStp} (hx : x.pl < 4) (v : Int) : Same (pre ++ [x]) (if 0 ≤ x.inn then rb.set x.pl v else rb) (over.set x.pl v) := by
  obtain ⟨h1, h2, h3⟩ := h
  refine ⟨by split <;> simp [h1], by simp [h2], fun p hp => ?_⟩
  rw [holdF_snoc] at hp
  rw [getD_set over x.pl p v 0 (by omega)]
  by_cases e : x.pl = p
  · subst e
    rw [if_pos rfl] at hp
    rw [if_pos rfl, if_pos hp, getD_set rb x.pl x.pl v 0 (by omega), if_pos rfl]
  · rw [if_neg e] at hp
    have e' : ¬ p = x.pl := fun g => e g.symm
    rw [if_neg e']
    by_cases hi : 0 ≤ x.inn
    · rw [if_pos hi, getD_set rb x.pl p v 0 (by omega), if_neg e']; exact h3 p hp
    · rw [if_neg hi]; exact h3 p hp

/-- A right table, whose steps were read. -/
structure Right (l : List TStp) : Prop where
  ok : ∀ y ∈ l, TOk y
  right : ∀ k, k < l.length → rightF l k = true

theorem rest_held {l : List TStp} (h : Right l) {i : Nat} {x : TStp} (hx : l[i]? = some x) (hr : x.rest = true) : 0 ≤ (holdF (l.take i) x.pl).1 := by
  have hi : i < l.length := by
    rcases Nat.lt_or_ge i l.length with g | g
    · exact g
    · rw [List.getElem?_eq_none g] at hx; cases hx
  have h1 := h.right i hi
  simp only [rightF, hx, ownRight, Bool.and_eq_true] at h1
  have h2 : x.out = (holdF (l.take i) x.pl).1 := by simpa using h1.1.2
  have h3 := (h.ok x (List.mem_of_getElem? hx)).rest hr
  omega

theorem window_same {l : List TStp} (h : Right l) {i : Nat} {x : TStp} (hx : l[i]? = some x) {rb over : List Int} (hs : Same (l.take i) rb over) (t : Int) : windowB x (t - rb.getD x.pl 0) = windowB x (t - over.getD x.pl 0) := by
  cases hr : x.rest
  · simp [windowB, hr]
  · rw [hs.2.2 x.pl (rest_held h hx hr)]

/-- The looks that are left. -/
def Looks (L : List Int) (k : Nat) (t : Nat) (cs : List Nat) : Prop := L.drop k = sumsF t cs
theorem Looks.here {L : List Int} {k t : Nat} {cs : List Nat} (h : Looks L k t cs) : L[k]? = some (t : Int) := by
  have : (L.drop k)[0]? = some (t : Int) := by rw [h]; cases cs <;> rfl
  simpa using this
theorem Looks.next {L : List Int} {k t c : Nat} {cs : List Nat} (h : Looks L k t (c :: cs)) : Looks L (k + 1) (t + c) cs := by
  have : (L.drop k).drop 1 = sumsF (t + c) cs := by rw [h]; rfl
  rw [List.drop_drop] at this
  exact this
theorem Looks.last {L : List Int} {k t : Nat} (h : Looks L k t []) : L.length ≤ k + 1 := by
  have : (L.drop k).drop 1 = [] := by rw [h]; rfl
  rw [List.drop_drop] at this
  exact List.drop_eq_nil_iff.1 this

/-- The machine's state ahead of a case: it stands at step i. -/
structure Free (l : List TStp) (m : Ms) (over : List Int) : Prop where
  work : m.work = false
  len : m.sts.length = m.k
  le : m.k ≤ l.length
  same : Same (l.take m.k) m.rb over
structure Busy (l : List TStp) (m : Ms) (over : List Int) (x : TStp) (now : Nat) (pre : List (Nat × Option Nat)) : Prop where
  work : m.work = true
  at_ : l[m.k]? = some x
  sts : m.sts = pre ++ [(now, none)]
  len : pre.length = m.k
  same : Same (l.take m.k) m.rb over
  le : now ≤ m.time

theorem Busy.began {l m over x now pre} (h : Busy l m over x now pre) : beganM m = now := by
  have : m.sts.getD m.k (0, none) = (now, none) := by
    rw [List.getD_eq_getElem?_getD, h.sts, ← h.len, List.getElem?_append_right (Nat.le_refl _)]
    simp
  rw [beganM, this]
theorem Busy.setd {l m over x now pre} (h : Busy l m over x now pre) (e : Nat × Option Nat) : m.sts.set m.k e = pre ++ [e] := by
  rw [h.sts, ← h.len, List.set_append_right _ _ (Nat.le_refl _)]
  simp

theorem take_succ' {l : List TStp} {k : Nat} {x : TStp} (h : l[k]? = some x) : l.take (k + 1) = l.take k ++ [x] := by rw [List.take_add_one, h]; rfl
theorem drop_cons' {l : List TStp} {k : Nat} {x : TStp} (h : l[k]? = some x) : l.drop k = x :: l.drop (k + 1) := by
  obtain ⟨hk, e⟩ := List.getElem?_eq_some_iff.1 h
  rw [List.drop_eq_getElem_cons hk, e]
theorem drop_nil' {l : List TStp} {k : Nat} (h : l[k]? = none) : l.drop k = [] := List.drop_eq_nil_iff.2 (List.getElem?_eq_none_iff.1 h)
theorem nameAt_some {l : List TStp} {k : Nat} {x : TStp} (h : l[k]? = some x) : nameAt l k = nmB x.pl x.no := by simp only [nameAt, h]

theorem itoa_add (a b : Nat) : Lib.itoa ((a : Int) + (b : Int)) = Lib.itoa ((a + b : Nat) : Int) := by rw [Int.natCast_add]

theorem ent_open (l : List TStp) (pre : List (Nat × Option Nat)) (x : TStp) (now : Nat) (hx : l[pre.length]? = some x) : evB l (pre ++ [(now, none)]) = joinB (evB l pre) (nmB x.pl x.no ++ [58] ++ Lib.itoa (now : Int) ++ [45]) := by
  rw [evB_join l pre x (now, none) hx]
  simp [entB, stintB]
theorem ent_shut (l : List TStp) (pre : List (Nat × Option Nat)) (x : TStp) (now v : Nat) (hx : l[pre.length]? = some x) : evB l (pre ++ [(now, some v)]) = joinB (evB l pre) (nmB x.pl x.no ++ [58] ++ Lib.itoa (now : Int) ++ [45]) ++ Lib.itoa (v : Int) := by
  rw [evB_join l pre x (now, some v) hx, joinB_app]
  simp [entB, stintB]

/-- What the document says from a state on. -/
def SaysFree (l : List TStp) (J : Nat) (takes : List Nat) (L : List Int) (k : Nat) (m : Ms) (over : List Int) : List UInt8 := refGo L J takes (l.drop m.k) m.k k (evB l m.sts) over
def SaysBusy (l : List TStp) (J : Nat) (takes : List Nat) (L : List Int) (k : Nat) (m : Ms) (over : List Int) (x : TStp) (now : Nat) : List UInt8 :=
  refEnd L takes x m.k (now : Int) (evB l m.sts) k (fun e t o => refGo L J takes (l.drop (m.k + 1)) (m.k + 1) e t (over.set x.pl o))

theorem refEnd_next {L : List Int} {takes : List Nat} {x : TStp} {i k : Nat} {t now : Int} {told : List UInt8} {go : Nat → List UInt8 → Int → List UInt8} (h : L[k]? = some t) (h1 : ¬ now + (x.hi : Int) + 1 ≤ t) (h2 : i < takes.length → ¬ now + ((takes.getD i 0 : Nat) : Int) ≤ t) :
    refEnd L takes x i now told k go = refEnd L takes x i now told (k + 1) go := by
  unfold refEnd
  rw [firstF_next h h1]
  by_cases hi : i < takes.length
  · rw [if_pos hi, if_pos hi, firstF_next h (h2 hi)]
  · rw [if_neg hi, if_neg hi]

/-- What must hold where a look ends open. -/
def OpenSays (l : List TStp) (J : Nat) (takes : List Nat) (L : List Int) (cs : List Nat) : Prop := ∀ (m : Ms) (k : Nat) (over : List Int), Looks L k m.time cs →
    (∀ x, Free l m over → l[m.k]? = some x → m.time < x.t → tellF l (runM l J takes cs (0, m)) = SaysFree l J takes L k m over) ∧
    (∀ x now pre, Busy l m over x now pre → overM takes m = false → ¬ now + x.hi < m.time → tellF l (runM l J takes cs (0, m)) = SaysBusy l J takes L k m over x now)
def Says (l : List TStp) (J : Nat) (takes : List Nat) (L : List Int) (cs : List Nat) (m : Ms) : Prop := ∀ (k : Nat) (over : List Int), Looks L k m.time cs →
    (Free l m over → tellF l (runM l J takes cs (lookM l J takes m)) = SaysFree l J takes L k m over) ∧
    (∀ x now pre, Busy l m over x now pre → tellF l (runM l J takes cs (lookM l J takes m)) = SaysBusy l J takes L k m over x now)

theorem over_iff {takes : List Nat} {m : Ms} : overM takes m = true ↔ m.k < takes.length ∧ beganM m + takes.getD m.k 0 ≤ m.time := by simp [overM]
theorem not_over {takes : List Nat} {m : Ms} (h : overM takes m = false) (hk : m.k < takes.length) : ¬ beganM m + takes.getD m.k 0 ≤ m.time := fun g => by
  rw [over_iff.2 ⟨hk, g⟩] at h; cases h

theorem says_of_open {l : List TStp} (hr : Right l) (J : Nat) (takes : List Nat) (L : List Int) (cs : List Nat) (ho : OpenSays l J takes L cs) : ∀ (n : Nat) (m : Ms), muM l m = n → Says l J takes L cs m := by
  intro n
  induction n using Nat.strongRecOn with
  | ind n ih =>
    intro m hn k over hL
    have hk := hL.here
    refine ⟨fun hf => ?_, fun x now pre hb => ?_⟩
    · cases hx : l[m.k]? with
      | none =>
        have e1 : oneM l J takes m = (some 1, m) := by simp [oneM, hx, hf.work]
        rw [lookM_some e1, runM_end (by simp), SaysFree, drop_nil' hx]
        simp [tellF, refGo]
      | some x =>
        by_cases ht : m.time < x.t
        · have e1 : oneM l J takes m = (some 0, m) := by simp [oneM, hx, hf.work, ht]
          rw [lookM_some e1]
          exact (ho m k over hL).1 x hf hx ht
        · have e0 : oneM l J takes m = beginM J x m := by simp [oneM, hx, hf.work, ht]
          have hfi : firstF L (x.t : Int) k = (k : Int) := firstF_here hk (by omega)
          have hgd : L.getD k 0 = (m.time : Int) := by rw [List.getD_eq_getElem?_getD, hk]; rfl
          rw [SaysFree, drop_cons' hx, refGo, hfi, if_neg (by omega), Int.toNat_natCast, hgd]
          by_cases hl : x.t + J < m.time
          · have e1 : oneM l J takes m = (some 4, m) := by rw [e0, beginM, if_pos hl]
            rw [lookM_some e1, runM_end (by simp), if_pos (by omega)]
            simp [tellF, nameAt_some hx]
          · rw [if_neg (by omega), ← window_same hr hx hf.same]
            by_cases hw : windowB x ((m.time : Int) - m.rb.getD x.pl 0) = true
            · have e1 : oneM l J takes m = (some 5, m) := by rw [e0, beginM, if_neg hl, if_pos hw]
              rw [lookM_some e1, runM_end (by simp), if_pos hw]
              simp [tellF, nameAt_some hx]
            · have e1 : oneM l J takes m = (none, { m with sts := m.sts ++ [(m.time, none)], work := true }) := by rw [e0, beginM, if_neg hl, if_neg hw]
              have hmu := oneM_mu e1
              have hb : Busy l { m with sts := m.sts ++ [(m.time, none)], work := true } over x m.time m.sts := ⟨rfl, hx, rfl, hf.len, hf.same, Nat.le_refl _⟩
              rw [lookM_none e1, if_neg hw, (ih _ (Nat.lt_of_lt_of_eq hmu hn) _ rfl k over (show Looks L k ({ m with sts := m.sts ++ [(m.time, none)], work := true } : Ms).time cs from hL)).2 x m.time m.sts hb, SaysBusy]
              simp only
              rw [ent_open l m.sts x m.time (by rw [hf.len]; exact hx)]
    · have hx := hb.at_
      have hbe := hb.began
      have hxl : l[pre.length]? = some x := by rw [hb.len]; exact hx
      by_cases hov : overM takes m = true
      · obtain ⟨hk1, hk2⟩ := over_iff.1 hov
        rw [hbe] at hk2
        have e0 : oneM l J takes m = finishM x (takes.getD m.k 0) m := by simp [oneM, hx, hb.work, hov]
        have hfi : firstF L ((now : Int) + ((takes.getD m.k 0 : Nat) : Int)) k = (k : Int) := firstF_here hk (by omega)
        have hge := firstF_ge (L := L) (x := (now : Int) + (x.hi : Int) + 1) (L.length - k) k rfl
        have hno : ¬ ((k : Int) < 0 ∨ (0 ≤ firstF L ((now : Int) + (x.hi : Int) + 1) k ∧ firstF L ((now : Int) + (x.hi : Int) + 1) k < (k : Int))) := by omega
        rw [SaysBusy, refEnd]
        rw [if_pos hk1, hfi, if_neg hno, hb.sts, ent_open l pre x now hxl]
        by_cases hlo : takes.getD m.k 0 < x.lo
        · have e1 := e0
          rw [finishM, if_pos hlo] at e1
          rw [lookM_some e1, runM_end (by simp), if_pos hlo]
          simp only [tellF, nameAt_some hx, hbe, hb.setd]
          rw [ent_shut l pre x now _ hxl, itoa_add]
          simp
        · by_cases hhi : x.hi < takes.getD m.k 0
          · have e1 := e0
            rw [finishM, if_neg hlo, if_pos hhi] at e1
            rw [lookM_some e1, runM_end (by simp), if_neg hlo, if_pos hhi]
            simp only [tellF, nameAt_some hx, hbe, hb.setd]
            rw [ent_shut l pre x now _ hxl, itoa_add]
            simp
          · have e1 := e0
            rw [finishM, if_neg hlo, if_neg hhi, hbe, hb.setd] at e1
            have hmu := oneM_mu e1
            have hpl := (hr.ok x (List.mem_of_getElem? hx)).pl
            have hkl : m.k < l.length := (List.getElem?_eq_some_iff.1 hx).1
            rw [lookM_none e1, if_neg hlo, if_neg hhi]
            have hf : Free l { m with sts := pre ++ [(now, some (now + takes.getD m.k 0))], rb := if 0 ≤ x.inn then m.rb.set x.pl ((now + takes.getD m.k 0 : Nat) : Int) else m.rb, work := false, k := m.k + 1 } (over.set x.pl ((now + takes.getD m.k 0 : Nat) : Int)) := by
              refine ⟨rfl, ?_, hkl, ?_⟩
              · simp [hb.len]
              · show Same (l.take (m.k + 1)) _ _
                rw [take_succ' hx]
                exact hb.same.snoc hpl _
            rw [(ih _ (Nat.lt_of_lt_of_eq hmu hn) _ rfl k _ (show Looks L k ({ m with sts := pre ++ [(now, some (now + takes.getD m.k 0))], rb := if 0 ≤ x.inn then m.rb.set x.pl ((now + takes.getD m.k 0 : Nat) : Int) else m.rb, work := false, k := m.k + 1 } : Ms).time cs from hL)).1 hf, SaysFree]
            simp only
            rw [ent_shut l pre x now _ hxl, itoa_add, Int.toNat_natCast, Int.natCast_add]
      · have hov' : overM takes m = false := by simpa using hov
        have hnf : m.k < takes.length → ¬ (now : Int) + ((takes.getD m.k 0 : Nat) : Int) ≤ (m.time : Int) := fun g => by
          have := not_over hov' g
          rw [hbe] at this
          omega
        by_cases hlg : now + x.hi < m.time
        · have e1 : oneM l J takes m = (some 3, m) := by simp [oneM, hx, hb.work, hov', hbe, hlg]
          have hfi : firstF L ((now : Int) + (x.hi : Int) + 1) k = (k : Int) := firstF_here hk (by omega)
          rw [lookM_some e1, runM_end (by simp), SaysBusy, refEnd]
          have hc : (if m.k < takes.length then firstF L ((now : Int) + ((takes.getD m.k 0 : Nat) : Int)) k else -1) < 0 ∨ (0 ≤ firstF L ((now : Int) + (x.hi : Int) + 1) k ∧ firstF L ((now : Int) + (x.hi : Int) + 1) k < (if m.k < takes.length then firstF L ((now : Int) + ((takes.getD m.k 0 : Nat) : Int)) k else -1)) := by
            by_cases g : m.k < takes.length
            · rw [if_pos g, hfi, firstF_next hk (hnf g)]
              have := firstF_ge (L := L) (x := (now : Int) + ((takes.getD m.k 0 : Nat) : Int)) (L.length - (k + 1)) (k + 1) rfl
              omega
            · rw [if_neg g]; exact Or.inl (by omega)
          rw [if_pos hc, hfi, if_pos (by omega)]
          simp [tellF, nameAt_some hx]
        · have e1 : oneM l J takes m = (some 0, m) := by simp [oneM, hx, hb.work, hov', hbe, hlg]
          rw [lookM_some e1]
          exact (ho m k over hL).2 x now pre hb hov' hlg

theorem open_nil {l : List TStp} (J : Nat) (takes : List Nat) (L : List Int) : OpenSays l J takes L [] := by
  intro m k over hL
  have hk := hL.here
  have hend := hL.last
  refine ⟨fun x hf hx ht => ?_, fun x now pre hb hov hlg => ?_⟩
  · rw [SaysFree, drop_cons' hx, refGo, firstF_next hk (by omega), firstF_end hend, if_pos (by omega)]
    simp [runM, tellF]
  · have hnf : m.k < takes.length → ¬ (now : Int) + ((takes.getD m.k 0 : Nat) : Int) ≤ (m.time : Int) := fun g => by
      have := not_over hov g
      rw [hb.began] at this
      omega
    rw [SaysBusy, refEnd_next hk (by omega) hnf, refEnd]
    rw [firstF_end hend, firstF_end hend]
    have hc : (if m.k < takes.length then (-1 : Int) else -1) < 0 ∨ (0 ≤ (-1 : Int) ∧ (-1 : Int) < (if m.k < takes.length then (-1 : Int) else -1)) := Or.inl (by split <;> omega)
    rw [if_pos hc, if_neg (by omega)]
    simp [runM, tellF]
theorem open_cons {l : List TStp} (J : Nat) (takes : List Nat) (L : List Int) (c : Nat) (cs : List Nat) (ih : ∀ m, Says l J takes L cs m) : OpenSays l J takes L (c :: cs) := by
  intro m k over hL
  have hk := hL.here
  refine ⟨fun x hf hx ht => ?_, fun x now pre hb hov hlg => ?_⟩
  · rw [runM_cons rfl]
    have hf2 : Free l { m with time := m.time + c } over := ⟨hf.work, hf.len, hf.le, hf.same⟩
    rw [(ih { m with time := m.time + c } (k + 1) over hL.next).1 hf2, SaysFree, SaysFree]
    simp only
    rw [drop_cons' hx, refGo, refGo, firstF_next hk (x := (x.t : Int)) (by omega)]
  · have hnf : m.k < takes.length → ¬ (now : Int) + ((takes.getD m.k 0 : Nat) : Int) ≤ (m.time : Int) := fun g => by
      have := not_over hov g
      rw [hb.began] at this
      omega
    rw [runM_cons rfl]
    have hb2 : Busy l { m with time := m.time + c } over x now pre := ⟨hb.work, hb.at_, hb.sts, hb.len, hb.same, Nat.le_trans hb.le (Nat.le_add_right _ _)⟩
    rw [(ih { m with time := m.time + c } (k + 1) over hL.next).2 x now pre hb2, SaysBusy, SaysBusy]
    simp only
    rw [refEnd_next hk (by omega) hnf]
theorem machine_says {l : List TStp} (hr : Right l) (J : Nat) (takes : List Nat) (L : List Int) : ∀ (cs : List Nat) (m : Ms), Says l J takes L cs m := by
  intro cs
  induction cs with
  | nil => exact fun m => says_of_open hr J takes L [] (open_nil J takes L) _ m rfl
  | cons c cs ih => exact fun m => says_of_open hr J takes L (c :: cs) (open_cons J takes L c cs ih) _ m rfl

/-- What the machine comes to is what the document says. -/
theorem machine_is {l : List TStp} (hr : Right l) (J : Nat) (clock takes : List Nat) : tellF l (machF l J clock takes) = refGo (sumsF 0 clock) J takes l 0 0 [] [0, 0, 0, 0] := by
  have h := (machine_says hr J takes (sumsF 0 clock) clock startM 0 [0, 0, 0, 0] rfl).1 ⟨rfl, rfl, Nat.zero_le _, Same.start⟩
  rw [SaysFree, show startM.k = 0 from rfl, List.drop_zero, show startM.sts = [] from rfl, evB_nil] at h
  exact h

end Hx
end Go.Proofs.YtppcnlkhdgmaiaaGreatDoor
