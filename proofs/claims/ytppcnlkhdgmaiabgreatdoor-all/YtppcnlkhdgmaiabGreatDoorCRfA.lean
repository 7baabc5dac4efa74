/- What the document's own reader does: next, must, one, number. -/
import Derived.Test.YtppcnlkhdgmaiabGreatDoorCRdD
import Derived.Test.YtppcnlkhdgmaiabGreatDoorCPg
namespace Go.Proofs.YtppcnlkhdgmaiabGreatDoor
open Go.RowKit


set_option maxHeartbeats 1000000 in
theorem next_yes (s : ByteArray) (b : Nat) (pos : Nat) (c : Int) (cn : Nat) (w : World) (hs : s.size ≤ 1000000) (hc : c = (cn : Int)) (hcn : cn < 256) (he : Hx.byteAt s pos = cn) (hr : Rd 108 s b ⟨pos, false⟩ w) :
    Calls Tryz.prog 42 #[.pointer (some ⟨b, 0, none⟩), .int .u8 c] w fun e w' => e = .returned (.bool true) ∧ Rd 108 s b ⟨pos + 1, false⟩ w' ∧ w.grownBy w' (some b) := by
  have c0 := hr.c0
  have c1 := hr.c1
  have c2 := hr.c2
  have f1 := hr.fz 1
  have HR := hide hr
  simp only at c1 c2
  have hlt : pos < s.size := Hx.byteAt_in (by omega)
  have hd : decide (s.size ≤ pos) = false := by simp; omega
  have hne : (((s[pos]'hlt).toNat : Int) != c) = false := by
    rw [Hx.byteAt_lt hlt] at he
    simp [hc]; omega
  clear hr hc he hcn
  go_enter Tryz.func42, Tryz.ntmps42
  go_wp2_with fail
  go_quiet (fail)
  go_wp2_with fail
  go_returns
  exact ⟨rfl, Rd.set1 (Rd.drewN (unhide HR) _) (pos + 1), grown_trans (grown_drewN _ _ _) (grown_set _ _ _ _)⟩

set_option maxHeartbeats 1000000 in
theorem next_no (s : ByteArray) (b : Nat) (st : Hx.St) (c : Int) (cn : Nat) (w : World) (_hs : s.size ≤ 1000000) (hp : st.pos ≤ s.size) (hc : c = (cn : Int)) (_hcn : cn < 256) (he : st.bad = true ∨ Hx.byteAt s st.pos ≠ cn) (hr : Rd 108 s b st w) :
    Calls Tryz.prog 42 #[.pointer (some ⟨b, 0, none⟩), .int .u8 c] w fun e w' => e = .returned (.bool false) ∧ Rd 108 s b st w' ∧ w.grownBy w' (some b) := by
  have c0 := hr.c0
  have c1 := hr.c1
  have c2 := hr.c2
  have HR := hide hr
  obtain ⟨pos, bad⟩ := st
  simp only at c1 c2 he hp
  cases bad
  · have he2 : Hx.byteAt s pos ≠ cn := by simpa using he
    by_cases hlt : pos < s.size
    · have hd : decide (s.size ≤ pos) = false := by simp; omega
      have hne : (((s[pos]'hlt).toNat : Int) != c) = true := by
        rw [Hx.byteAt_lt hlt] at he2
        simp [hc]; omega
      clear hr hc he he2
      go_enter Tryz.func42, Tryz.ntmps42
      go_wp2_with fail
      go_quiet (fail)
      go_wp2_with fail
      go_returns
      exact ⟨rfl, Rd.drewN (unhide HR) _, grown_drewN _ _ _⟩
    · have hpe : s.size ≤ pos := by omega
      have hd : decide (s.size ≤ pos) = true := by simp; omega
      clear hr hc he he2 hlt
      go_enter Tryz.func42, Tryz.ntmps42
      go_wp2_with fail
      go_quiet (fail)
      go_wp2_with fail
      go_returns
      exact ⟨rfl, Rd.drewN (unhide HR) _, grown_drewN _ _ _⟩
  · clear hr hc he
    go_enter Tryz.func42, Tryz.ntmps42
    go_wp2_with fail
    go_quiet (fail)
    go_wp2_with fail
    go_returns
    exact ⟨rfl, Rd.drewN (unhide HR) _, grown_drewN _ _ _⟩

set_option maxHeartbeats 1000000 in
theorem must_any (s : ByteArray) (b : Nat) (st : Hx.St) (c : Int) (cn : Nat) (w : World) (hs : s.size ≤ 1000000) (hp : st.pos ≤ s.size) (hc : c = (cn : Int)) (hcn : cn < 256) (hr : Rd 108 s b st w) :
    Calls Tryz.prog 40 #[.pointer (some ⟨b, 0, none⟩), .int .u8 c] w fun e w' => e = .returned (.tuple #[]) ∧ Rd 108 s b (Hx.takeF s cn st) w' ∧ w.grownBy w' (some b) := by
  have HR := hide hr
  have HC := hide hc
  clear hr hc
  by_cases h : st.bad = true ∨ Hx.byteAt s st.pos ≠ cn
  · have hfin := hide (show Hx.takeF s cn st = ⟨st.pos, true⟩ by rw [Hx.takeF, if_pos h])
    have HH := hide h
    clear h
    go_enter Tryz.func40, Tryz.ntmps40
    go_wp2_with fail
    refine (next_no s b st _ cn _ hs hp (unhide HC) hcn (unhide HH) (unhide HR)).mono ?_
    rintro e w1 ⟨rfl, hr1, hg1⟩
    have f2 := hr1.fz 2
    have c2 := hr1.c2
    have HR1 := hide hr1
    have HG1 := hide hg1
    clear hr1 hg1
    go_wp2_with fail
    go_returns
    rw [unhide hfin]
    exact ⟨rfl, Rd.set2 (unhide HR1) true, grown_trans (unhide HG1) (grown_set _ _ _ _)⟩
  · obtain ⟨pos, bad⟩ := st
    simp only [not_or, Bool.not_eq_true, ne_eq, Decidable.not_not] at h
    obtain ⟨rfl, h2⟩ := h
    have hfin := hide (show Hx.takeF s cn ⟨pos, false⟩ = ⟨pos + 1, false⟩ from Hx.takeF_yes rfl h2)
    have H2 := hide h2
    clear h2
    go_enter Tryz.func40, Tryz.ntmps40
    go_wp2_with fail
    refine (next_yes s b pos _ cn _ hs (unhide HC) hcn (unhide H2) (unhide HR)).mono ?_
    rintro e w1 ⟨rfl, hr1, hg1⟩
    have HR1 := hide hr1
    have HG1 := hide hg1
    clear hr1 hg1
    go_wp2_with fail
    go_returns
    rw [unhide hfin]
    exact ⟨rfl, unhide HR1, unhide HG1⟩

set_option maxHeartbeats 1000000 in
theorem one_any (s : ByteArray) (b : Nat) (st : Hx.St) (lo hi : Nat) (li hi' : Int) (w : World) (hs : s.size ≤ 1000000) (hp : st.pos ≤ s.size) (hlo : li = (lo : Int)) (hhi : hi' = (hi : Int)) (hh : hi < 256) (hr : Rd 108 s b st w) :
    Calls Tryz.prog 57 #[.pointer (some ⟨b, 0, none⟩), .int .u8 li, .int .u8 hi'] w fun e w' => e = .returned (.int .i64 ((Hx.oneF s lo hi st).1 : Int)) ∧ Rd 108 s b (Hx.oneF s lo hi st).2 w' ∧ w.grownBy w' (some b) := by
  have c0 := hr.c0
  have c1 := hr.c1
  have c2 := hr.c2
  have f1 := hr.fz 1
  have f2 := hr.fz 2
  have HR := hide hr
  clear hr
  subst hlo hhi
  obtain ⟨pos, bad⟩ := st
  simp only at c1 c2 hp
  cases bad
  · by_cases hlt : pos < s.size
    · have hd : decide (s.size ≤ pos) = false := by simp; omega
      have HB := hide (Hx.byteAt_lt hlt)
      have hb256 : ((s[pos]'hlt).toNat : Int) < 256 := by have := (s[pos]'hlt).toNat_lt; omega
      by_cases h1 : ((s[pos]'hlt).toNat : Int) < (lo : Int)
      · have hfin := hide (Hx.oneF_no (s := s) (lo := lo) (hi := hi) (st := ⟨pos, false⟩) (Or.inl (by rw [Hx.byteAt_lt hlt]; omega)))
        go_enter Tryz.func57, Tryz.ntmps57
        go_wp2_with fail
        go_quiet (fail)
        go_wp2_with fail
        go_returns
        rw [unhide hfin]
        exact ⟨rfl, Rd.set2 (Rd.drewN (unhide HR) _) true, grown_trans (grown_drewN _ _ _) (grown_set _ _ _ _)⟩
      · have h1' : decide ((s[pos]'hlt).toNat < lo) = false := by simp; omega
        by_cases h2 : (hi : Int) < ((s[pos]'hlt).toNat : Int)
        · have hfin := hide (Hx.oneF_no (s := s) (lo := lo) (hi := hi) (st := ⟨pos, false⟩) (Or.inr (by rw [Hx.byteAt_lt hlt]; omega)))
          go_enter Tryz.func57, Tryz.ntmps57
          go_wp2_with fail
          go_quiet (fail)
          go_wp2_with fail
          go_returns
          rw [unhide hfin]
          exact ⟨rfl, Rd.set2 (Rd.drewN (unhide HR) _) true, grown_trans (grown_drewN _ _ _) (grown_set _ _ _ _)⟩
        · have h2' : decide (hi < (s[pos]'hlt).toNat) = false := by simp; omega
          have hfin := hide (Hx.oneF_yes (s := s) (lo := lo) (hi := hi) (st := ⟨pos, false⟩) rfl (by rw [Hx.byteAt_lt hlt]; omega) (by rw [Hx.byteAt_lt hlt]; omega))
          have hval := hide (show (((s[pos]'hlt).toNat - lo : Nat) : Int) = ((s[pos]'hlt).toNat : Int) - (lo : Int) by omega)
          go_enter Tryz.func57, Tryz.ntmps57
          go_wp2_with fail
          go_quiet (fail)
          go_wp2_with fail
          go_quiet (fail)
          go_wp2_with fail
          go_returns
          rw [unhide hfin]
          refine ⟨ret_int (a := ((s[pos]'hlt).toNat : Int) - (lo : Int)) (b := ((Hx.byteAt s pos - lo : Nat) : Int)) (by rw [unhide HB, unhide hval]), Rd.drewN (Rd.set1 (Rd.drewN (unhide HR) _) (pos + 1)) _, ?_⟩
          exact grown_trans (grown_drewN _ _ _) (grown_trans (grown_set _ _ _ _) (grown_drewN _ _ _))
    · have hpe : s.size ≤ pos := by omega
      have hd : decide (s.size ≤ pos) = true := by simp; omega
      have hfin := hide (Hx.oneF_no (s := s) (lo := lo) (hi := hi) (st := ⟨pos, false⟩) (Or.inr (by rw [Hx.byteAt_ge hpe]; omega)))
      clear hlt
      go_enter Tryz.func57, Tryz.ntmps57
      go_wp2_with fail
      go_quiet (fail)
      go_wp2_with fail
      go_returns
      rw [unhide hfin]
      exact ⟨rfl, Rd.set2 (Rd.drewN (unhide HR) _) true, grown_trans (grown_drewN _ _ _) (grown_set _ _ _ _)⟩
  · have hfin := hide (Hx.oneF_bad (s := s) (lo := lo) (hi := hi) (st := ⟨pos, true⟩) rfl)
    go_enter Tryz.func57, Tryz.ntmps57
    go_wp2_with fail
    go_quiet (fail)
    go_wp2_with fail
    go_returns
    rw [unhide hfin]
    exact ⟨rfl, Rd.set2 (Rd.drewN (unhide HR) _) true, grown_trans (grown_drewN _ _ _) (grown_set _ _ _ _)⟩

end Go.Proofs.YtppcnlkhdgmaiabGreatDoor
