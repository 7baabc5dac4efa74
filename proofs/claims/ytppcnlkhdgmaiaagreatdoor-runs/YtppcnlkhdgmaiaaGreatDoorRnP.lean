/- The plain facts on what the machine comes to. -/
import Derived.Test.YtppcnlkhdgmaiaaGreatDoorRmE
import Derived.Test.YtppcnlkhdgmaiaaGreatDoorPz
namespace Go.Proofs.YtppcnlkhdgmaiaaGreatDoor
open Go.RowKit

/-- What was over was so within bounds. -/
def OvOk (m : Hx.Ms) : Prop := ∀ p ∈ m.sts, ∀ v, p.2 = some v → v ≤ 2000000
/-- What a look comes to. -/
structure LkOk (l : List Hx.TStp) (r : Nat × Hx.Ms) : Prop where
  lt : r.1 < 6
  k : 2 ≤ r.1 → r.2.k < l.length
  ok : MOk l r.2
  ov : OvOk r.2

theorem oneM_ov {l : List Hx.TStp} {J : Nat} {takes : List Nat} {m : Hx.Ms} (h : MOk l m) (ho : OvOk m) (hk : ∀ n ∈ takes, n < 1000) : OvOk (Hx.oneM l J takes m).2 := by
  unfold Hx.oneM
  cases hx : l[m.k]? with
  | none => exact ho
  | some x =>
    simp only
    split
    · rename_i hw
      obtain ⟨h1, h2⟩ := h.work hw
      have hb : Hx.beganM m ≤ 1000000 := by
        rw [Hx.beganM, List.getD_eq_getElem?_getD, List.getElem?_eq_getElem (by omega)]
        exact h.sts _ (List.getElem_mem _)
      have hkt : takes.getD m.k 0 < 1000 := by
        rw [List.getD_eq_getElem?_getD]
        cases ht : takes[m.k]? with
        | none => simp
        | some n => exact hk n (List.mem_of_getElem? ht)
      have hsts : ∀ p ∈ m.sts.set m.k (Hx.beganM m, some (Hx.beganM m + takes.getD m.k 0)), ∀ v, p.2 = some v → v ≤ 2000000 := fun p hp v hv => by
        rcases mem_set hp with rfl | hp
        · have hv : some (Hx.beganM m + takes.getD m.k 0) = some v := hv
          cases hv
          omega
        · exact ho p hp v hv
      split
      · unfold Hx.finishM
        split
        · exact hsts
        · split
          · exact hsts
          · exact hsts
      · split <;> exact ho
    · split
      · exact ho
      · unfold Hx.beginM
        split
        · exact ho
        · split
          · exact ho
          · intro p hp v hv
            rcases List.mem_append.1 hp with hp | hp
            · exact ho p hp v hv
            · rw [List.mem_singleton.1 hp] at hv; cases hv
theorem oneM_out {l : List Hx.TStp} {J : Nat} {takes : List Nat} {m m' : Hx.Ms} {e : Nat} (h : Hx.oneM l J takes m = (some e, m')) : e < 6 ∧ (2 ≤ e → m'.k < l.length) := by
  unfold Hx.oneM at h
  cases hx : l[m.k]? with
  | none =>
    rw [hx] at h
    simp only at h
    cases h
    split <;> exact ⟨by omega, fun g => by omega⟩
  | some x =>
    have hkl : m.k < l.length := (List.getElem?_eq_some_iff.1 hx).1
    rw [hx] at h
    simp only at h
    split at h
    · split at h
      · unfold Hx.finishM at h
        split at h
        · cases h; exact ⟨by omega, fun _ => hkl⟩
        · split at h
          · cases h; exact ⟨by omega, fun _ => hkl⟩
          · cases h
      · split at h
        · cases h; exact ⟨by omega, fun _ => hkl⟩
        · cases h; exact ⟨by omega, fun _ => hkl⟩
    · split at h
      · cases h; exact ⟨by omega, fun _ => hkl⟩
      · unfold Hx.beginM at h
        split at h
        · cases h; exact ⟨by omega, fun _ => hkl⟩
        · split at h
          · cases h; exact ⟨by omega, fun _ => hkl⟩
          · cases h
theorem lookM_lk {l : List Hx.TStp} {J : Nat} {takes : List Nat} (hk : ∀ n ∈ takes, n < 1000) : ∀ (n : Nat) (m : Hx.Ms), Hx.muM l m = n → MOk l m → OvOk m → LkOk l (Hx.lookM l J takes m) := by
  intro n
  induction n using Nat.strongRecOn with
  | ind n ih =>
    intro m hn h ho
    have h1 := oneM_ok (J := J) h hk
    have h2 := oneM_ov (J := J) h ho hk
    cases hq : Hx.oneM l J takes m with
    | mk r m' =>
      rw [hq] at h1 h2
      cases r with
      | none =>
        rw [Hx.lookM_none hq]
        exact ih _ (by have := Hx.oneM_mu hq; omega) m' rfl h1 h2
      | some e =>
        rw [Hx.lookM_some hq]
        obtain ⟨a, b⟩ := oneM_out hq
        exact ⟨a, b, h1, h2⟩
theorem runM_lk {l : List Hx.TStp} {J : Nat} {takes : List Nat} (hk : ∀ n ∈ takes, n < 1000) : ∀ (cs : List Nat) (r : Nat × Hx.Ms), r.2.time + cs.sum ≤ 1000000 → LkOk l r → LkOk l (Hx.runM l J takes cs r) := by
  intro cs
  induction cs with
  | nil => intro r _ h; exact h
  | cons c cs ih =>
    intro r ht h
    rw [List.sum_cons] at ht
    by_cases h0 : r.1 = 0
    · rw [Hx.runM_cons h0]
      refine ih _ ?_ (lookM_lk hk _ _ rfl (h.ok.later c (by omega)) h.ov)
      rw [lookM_time _ _ rfl]
      show r.2.time + c + cs.sum ≤ _
      omega
    · rw [Hx.runM_end h0]; exact h
theorem start_ok (l : List Hx.TStp) : MOk l Hx.startM := by
  refine ⟨(fun g => by cases g), fun _ => ⟨Nat.zero_le _, rfl⟩, Nat.zero_le _, (fun p hp => by cases hp), rfl, ?_⟩
  intro r hr
  simp [Hx.startM] at hr
  omega
theorem mach_lk {l : List Hx.TStp} {J : Nat} {clock takes : List Nat} (hk : ∀ n ∈ takes, n < 1000) (hc : clock.sum ≤ 1000000) : LkOk l (Hx.machF l J clock takes) := by
  refine runM_lk hk clock _ ?_ (lookM_lk hk _ _ rfl (start_ok l) (fun p hp => by cases hp))
  rw [lookM_time _ _ rfl]
  show 0 + _ ≤ _
  omega
theorem LkOk.len {l r} (h : LkOk l r) : r.2.sts.length ≤ l.length := by
  cases hw : r.2.work
  · have := h.ok.free hw; omega
  · have := h.ok.work hw; omega
theorem LkOk.st {l r} (h : LkOk l r) : ∀ p ∈ r.2.sts, p.1 ≤ 3000000 ∧ ∀ v, p.2 = some v → v ≤ 3000000 := fun p hp =>
  ⟨Nat.le_trans (h.ok.sts p hp) (by omega), fun v hv => Nat.le_trans (h.ov p hp v hv) (by omega)⟩

end Go.Proofs.YtppcnlkhdgmaiaaGreatDoor
