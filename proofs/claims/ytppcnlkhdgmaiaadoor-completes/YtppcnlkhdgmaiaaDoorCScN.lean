/- What a Scan's number does. -/
import Derived.Test.YtppcnlkhdgmaiaaDoorCScA
namespace Go.Proofs.YtppcnlkhdgmaiaaDoor
open Go.RowKit

theorem Hx.digF_cut {s : ByteArray} {k p v : Nat} (h : (Hx.digF s k p v).2 = p) : Hx.digF s k p v = (v, p) := by
  cases k with
  | zero => rfl
  | succ k =>
    by_cases g : 48 ≤ Hx.byteAt s p ∧ Hx.byteAt s p ≤ 57
    · rw [Hx.digF_step g] at h
      have := Hx.digF_ge s k (p + 1) (v * 10 + (Hx.byteAt s p - 48))
      omega
    · exact Hx.digF_stop g

set_option maxRecDepth 100000 in
set_option maxHeartbeats 4000000 in
theorem scnum_any (s : ByteArray) (b : Nat) (st : Hx.St) (w : World) (hs : s.size ≤ 10000000) (hp : st.pos ≤ s.size) (hr : Rd 95 s b st w) :
    Calls Tryd.prog 37 #[.pointer (some ⟨b, 0, none⟩)] w fun e w' => e = .returned (.int .i64 ((Hx.scNum s st).1 : Int)) ∧ Rd 95 s b (Hx.scNum s st).2 w' ∧ w.grownBy w' (some b) := by
  have c1 := hr.c1
  have HR := hide hr
  clear hr
  obtain ⟨p0, bad⟩ := st
  simp only at c1 hp
  go_enter Tryd.func37, Tryd.ntmps37
  go_wp2_with fail
  go_loopg [3] 10 (fun gk v wr => ∃ k m : Nat, k ≤ 9 ∧ gk = 10 - k ∧ v = .int .i64 (m : Int) ∧ m < 10 ^ k ∧ p0 + k ≤ s.size ∧ Rd 95 s b ⟨p0 + k, bad⟩ wr ∧ w.grownBy wr (some b) ∧ Hid (Hx.digF s (9 - k) (p0 + k) m = Hx.digF s 9 p0 0))
  case atStart => exact ⟨0, 0, Nat.zero_le _, rfl, rfl, by decide, hp, unhide HR, World.grownBy.refl _ _, rfl⟩
  case round =>
    obtain ⟨k, m, hk, rfl, rfl, hmk, hpos, hrd, hgr, HD⟩ := hrel
    have c0 := hrd.c0
    have c1 := hrd.c1
    have c2 := hrd.c2
    have f1 := hrd.fz 1
    have f2 := hrd.fz 2
    simp only at c1 c2
    have HRD := hide hrd
    have HG := hide hgr
    have HM := hide hmk
    have hm9 : m < 1000000000 := Nat.lt_of_lt_of_le hmk (Nat.le_trans (Nat.pow_le_pow_right (by omega) hk) (by decide))
    obtain ⟨pos, hpo⟩ : ∃ pos, pos = p0 + k := ⟨_, rfl⟩
    rw [← hpo] at HD HRD c1 hpos
    have HPO := hide hpo
    have hw : IntKind.i64.wrap ((pos : Int) - (p0 : Int)) = (k : Int) := by
      rw [show (pos : Int) - (p0 : Int) = (k : Int) by omega]
      exact IntWalk.i64_in _ ⟨by omega, by omega⟩
    clear hrd hgr hmk hpo
    by_cases hgo : (48 ≤ Hx.byteAt s pos ∧ Hx.byteAt s pos ≤ 57) ∧ k < 9
    · obtain ⟨hdg, hk9⟩ := hgo
      have hin : pos < s.size := Hx.byteAt_in (by omega)
      have hb1 : Hx.byteAt s pos = (s[pos]'hin).toNat := Hx.byteAt_lt hin
      have h48 : (48 : Int) ≤ ((s[pos]'hin).toNat : Int) := by omega
      have h57 : ((s[pos]'hin).toNat : Int) ≤ 57 := by omega
      have hkI : (k : Int) < 9 := by omega
      have hinI : (pos : Int) < (s.size : Int) := by omega
      have HFN : Hid (Hx.digF s (9 - (k + 1)) (pos + 1) (m * 10 + (Hx.byteAt s pos - 48)) = Hx.digF s 9 p0 0) := by
        have e : 9 - k = (9 - (k + 1)) + 1 := by omega
        have := unhide HD
        rw [e, Hx.digF_step hdg] at this
        exact this
      have HM2 : Hid (m * 10 + (Hx.byteAt s pos - 48) < 10 ^ (k + 1)) := by
        have := unhide HM
        show _ < _
        rw [Nat.pow_succ]; omega
      have HV : Hid (((m * 10 + (Hx.byteAt s pos - 48) : Nat) : Int) = 10 * (m : Int) + (((s[pos]'hin).toNat : Int) - 48)) := by
        show _ = _
        omega
      clear hdg hb1
      go_wp2_with fail
      go_quiet (fail)
      go_wp2_with fail
      go_quiet (fail)
      go_wp2_with fail
      go_roundg (10 - (k + 1))
      case measure => omega
      case rel =>
        refine ⟨k + 1, m * 10 + (Hx.byteAt s pos - 48), by omega, rfl, by rw [unhide HV], unhide HM2, by have := unhide HPO; omega, ?_, grown_trans (unhide HG) (grown_trans (grown_drewN _ _ _) (grown_set _ _ _ _)), ?_⟩
        · rw [show p0 + (k + 1) = pos + 1 by have := unhide HPO; omega]
          exact Rd.set1 (Rd.drewN (unhide HRD) _) (pos + 1)
        · rw [show p0 + (k + 1) = pos + 1 by have := unhide HPO; omega]
          exact unhide HFN
    · have HFN : Hid ((m, pos) = Hx.digF s 9 p0 0) := by
        have := unhide HD
        by_cases hdg : 48 ≤ Hx.byteAt s pos ∧ Hx.byteAt s pos ≤ 57
        · have : k = 9 := by
            by_cases h : k < 9
            · exact absurd ⟨hdg, h⟩ hgo
            · omega
          subst this
          exact unhide HD
        · rw [Hx.digF_stop hdg] at this
          exact this
      have HS : Hid (Hx.scNum s ⟨p0, bad⟩ = (m, ⟨pos, bad || decide (pos = p0)⟩)) := by
        show _ = _
        unfold Hx.scNum
        rw [← unhide HFN]
      have hc : ¬ pos < s.size ∨ (∃ hin : pos < s.size, ¬ (48 : Int) ≤ ((s[pos]'hin).toNat : Int)) ∨ (∃ hin : pos < s.size, (48 : Int) ≤ ((s[pos]'hin).toNat : Int) ∧ ¬ ((s[pos]'hin).toNat : Int) ≤ 57) ∨ (∃ hin : pos < s.size, (48 : Int) ≤ ((s[pos]'hin).toNat : Int) ∧ ((s[pos]'hin).toNat : Int) ≤ 57 ∧ ¬ (k : Int) < 9) := by
        by_cases hin : pos < s.size
        · rw [Hx.byteAt_lt hin] at hgo
          by_cases g1 : (48 : Int) ≤ ((s[pos]'hin).toNat : Int)
          · by_cases g2 : ((s[pos]'hin).toNat : Int) ≤ 57
            · exact Or.inr (Or.inr (Or.inr ⟨hin, g1, g2, fun h => hgo ⟨⟨by omega, by omega⟩, by omega⟩⟩))
            · exact Or.inr (Or.inr (Or.inl ⟨hin, g1, g2⟩))
          · exact Or.inr (Or.inl ⟨hin, g1⟩)
        · exact Or.inl hin
      clear hgo
      by_cases hz : pos = p0
      · have HS2 : Hid (Hx.scNum s ⟨p0, bad⟩ = (m, ⟨pos, true⟩)) := by show _ = _; rw [unhide HS]; simp [hz]
        have hzd : ((pos : Int) == (p0 : Int)) = true := by simp [hz]
        have HZ := hide hz
        clear hz HS
        rcases hc with h1 | ⟨hin, h2⟩ | ⟨hin, h2, h3⟩ | ⟨hin, h2, h3, h4⟩
        all_goals
          try (have h1d : decide ((pos : Int) < (s.size : Int)) = false := by simp; omega)
          try (have h2d : decide ((48 : Int) ≤ ((s[pos]'hin).toNat : Int)) = false := by simpa using h2)
          try (have h3d : decide (((s[pos]'hin).toNat : Int) ≤ 57) = false := by simpa using h3)
          try (have h4d : decide ((k : Int) < 9) = false := by simpa using h4)
          go_wp2_with fail
          go_quiet (fail)
          go_wp2_with fail
          go_returns
          rw [unhide HS2]
          exact ⟨rfl, Rd.set2 (Rd.drewN (unhide HRD) _) true, grown_trans (unhide HG) (grown_trans (grown_drewN _ _ _) (grown_set _ _ _ _))⟩
      · have HS2 : Hid (Hx.scNum s ⟨p0, bad⟩ = (m, ⟨pos, bad⟩)) := by show _ = _; rw [unhide HS]; simp [hz]
        have hzd : ((pos : Int) == (p0 : Int)) = false := by simpa using (by omega : ¬ (pos : Int) = (p0 : Int))
        have HZ := hide hz
        clear hz HS
        rcases hc with h1 | ⟨hin, h2⟩ | ⟨hin, h2, h3⟩ | ⟨hin, h2, h3, h4⟩
        all_goals
          try (have h1d : decide ((pos : Int) < (s.size : Int)) = false := by simp; omega)
          try (have h2d : decide ((48 : Int) ≤ ((s[pos]'hin).toNat : Int)) = false := by simpa using h2)
          try (have h3d : decide (((s[pos]'hin).toNat : Int) ≤ 57) = false := by simpa using h3)
          try (have h4d : decide ((k : Int) < 9) = false := by simpa using h4)
          go_wp2_with fail
          go_quiet (fail)
          go_wp2_with fail
          go_returns
          rw [unhide HS2]
          exact ⟨rfl, Rd.drewN (unhide HRD) _, grown_trans (unhide HG) (grown_drewN _ _ _)⟩
end Go.Proofs.YtppcnlkhdgmaiaaDoor
