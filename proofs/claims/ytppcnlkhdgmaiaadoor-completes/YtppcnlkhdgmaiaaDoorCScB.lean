/- What a Scan's name and number do. -/
import Derived.Test.YtppcnlkhdgmaiaaDoorCScA
namespace Go.Proofs.YtppcnlkhdgmaiaaDoor
open Go.RowKit

set_option maxRecDepth 100000 in
set_option maxHeartbeats 2000000 in
theorem scname_any (s : ByteArray) (b : Nat) (st : Hx.St) (w : World) (hs : s.size ≤ 10000000) (hp : st.pos ≤ s.size) (hr : Rd 95 s b st w) :
    Calls Tryd.prog 38 #[.pointer (some ⟨b, 0, none⟩)] w fun e w' => e = .returned (.tuple #[.int .i64 ((Hx.scName s st).1.1 : Int), .int .i64 ((Hx.scName s st).1.2 : Int)]) ∧ Rd 95 s b (Hx.scName s st).2 w' ∧ w.grownBy w' (some b) := by
  have c0 := hr.c0
  have c1 := hr.c1
  have c2 := hr.c2
  have f1 := hr.fz 1
  have f2 := hr.fz 2
  have HR := hide hr
  clear hr
  obtain ⟨pos, bad⟩ := st
  simp only at c1 c2 hp
  by_cases hlt : pos + 1 < s.size
  · have hlt0 : pos < s.size := by omega
    have e0 : Hx.byteAt s pos = (s[pos]'hlt0).toNat := Hx.byteAt_lt hlt0
    have e1 : Hx.byteAt s (pos + 1) = (s[pos + 1]'hlt).toNat := Hx.byteAt_lt hlt
    have hge : decide ((s.size : Int) ≤ (pos : Int) + 1) = false := by simp; omega
    have hI0 : (0 : Int) ≤ (pos : Int) + 1 := by omega
    have hI1 : (pos : Int) + 1 < (s.size : Int) := by omega
    have hI2 : ((pos : Int) + 1).toNat = pos + 1 := by omega
    have q0 : ((s[pos]'hlt0).toNat : Int) < 256 := by have := (s[pos]'hlt0).toNat_lt; omega
    have q1 : ((s[pos + 1]'hlt).toNat : Int) < 256 := by have := (s[pos + 1]'hlt).toNat_lt; omega
    by_cases hn : Hx.nameOk s pos
    · have HF : Hid (Hx.scName s ⟨pos, bad⟩ = ((Hx.byteAt s pos - 97, Hx.byteAt s (pos + 1) - 48), ⟨pos + 2, bad⟩)) := by
        show _ = _
        unfold Hx.scName
        rw [if_pos hlt, if_pos hn]
      obtain ⟨n1, n2, n3, n4⟩ := hn
      rw [e0] at n1 n2
      rw [e1] at n3 n4
      have h1 : ¬ ((s[pos]'hlt0).toNat : Int) - 97 < 0 := by omega
      have h2 : ¬ 3 < ((s[pos]'hlt0).toNat : Int) - 97 := by omega
      have h3 : ¬ ((s[pos + 1]'hlt).toNat : Int) - 48 < 0 := by omega
      have h4 : ¬ 9 < ((s[pos + 1]'hlt).toNat : Int) - 48 := by omega
      have HV : Hid (((Hx.byteAt s pos - 97 : Nat) : Int) = ((s[pos]'hlt0).toNat : Int) - 97 ∧ ((Hx.byteAt s (pos + 1) - 48 : Nat) : Int) = ((s[pos + 1]'hlt).toNat : Int) - 48) := by
        constructor <;> omega
      clear e0 e1 n1 n2 n3 n4
      go_enter Tryd.func38, Tryd.ntmps38
      go_wp2_with fail
      go_quiet (fail)
      go_wp2_with fail
      go_quiet (fail)
      go_wp2_with fail
      go_quiet (fail)
      go_wp2_with fail
      go_returns
      rw [unhide HF]
      refine ⟨?_, Rd.set1 (Rd.drewN (unhide HR) _) (pos + 2), grown_trans (grown_drewN _ _ _) (grown_set _ _ _ _)⟩
      simp only
      rw [(unhide HV).1, (unhide HV).2]
      rfl
    · have HF : Hid (Hx.scName s ⟨pos, bad⟩ = ((0, 0), ⟨pos + 2, true⟩)) := by
        show _ = _
        unfold Hx.scName
        rw [if_pos hlt, if_neg hn]
      have hc : ((s[pos]'hlt0).toNat : Int) - 97 < 0 ∨ (¬ ((s[pos]'hlt0).toNat : Int) - 97 < 0 ∧ 3 < ((s[pos]'hlt0).toNat : Int) - 97) ∨ (¬ ((s[pos]'hlt0).toNat : Int) - 97 < 0 ∧ ¬ 3 < ((s[pos]'hlt0).toNat : Int) - 97 ∧ ((s[pos + 1]'hlt).toNat : Int) - 48 < 0) ∨ (¬ ((s[pos]'hlt0).toNat : Int) - 97 < 0 ∧ ¬ 3 < ((s[pos]'hlt0).toNat : Int) - 97 ∧ ¬ ((s[pos + 1]'hlt).toNat : Int) - 48 < 0 ∧ 9 < ((s[pos + 1]'hlt).toNat : Int) - 48) := by
        unfold Hx.nameOk at hn
        rw [e0, e1] at hn
        omega
      clear e0 e1 hn
      rcases hc with h1 | ⟨h1, h2⟩ | ⟨h1, h2, h3⟩ | ⟨h1, h2, h3, h4⟩
      all_goals
        go_enter Tryd.func38, Tryd.ntmps38
        go_wp2_with fail
        go_quiet (fail)
        go_wp2_with fail
        go_quiet (fail)
        go_wp2_with fail
        go_quiet (fail)
        go_wp2_with fail
        go_returns
        rw [unhide HF]
        exact ⟨rfl, Rd.set2 (Rd.set1 (Rd.drewN (unhide HR) _) (pos + 2)) true, grown_trans (grown_trans (grown_drewN _ _ _) (grown_set _ _ _ _)) (grown_set _ _ _ _)⟩
  · have HF : Hid (Hx.scName s ⟨pos, bad⟩ = ((0, 0), ⟨pos, true⟩)) := by
      show _ = _
      unfold Hx.scName
      rw [if_neg hlt]
    have hge : decide ((s.size : Int) ≤ (pos : Int) + 1) = true := by simp; omega
    go_enter Tryd.func38, Tryd.ntmps38
    go_wp2_with fail
    go_quiet (fail)
    go_wp2_with fail
    go_returns
    rw [unhide HF]
    exact ⟨rfl, Rd.set2 (Rd.drewN (unhide HR) _) true, grown_trans (grown_drewN _ _ _) (grown_set _ _ _ _)⟩
end Go.Proofs.YtppcnlkhdgmaiaaDoor
