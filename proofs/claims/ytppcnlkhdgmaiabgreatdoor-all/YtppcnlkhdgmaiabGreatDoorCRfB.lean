/- What the document's own reader of numbers does: number. -/
import Derived.Test.YtppcnlkhdgmaiabGreatDoorCRfA
import Derived.Deep.LoopGhost
namespace Go.Proofs.YtppcnlkhdgmaiabGreatDoor
open Go.RowKit


set_option maxRecDepth 100000 in
set_option maxHeartbeats 4000000 in
theorem refnum_any (s : ByteArray) (b : Nat) (st : Hx.St) (mi : Int) (most : Nat) (w : World) (hs : s.size ≤ 1000000) (hp : st.pos ≤ s.size) (hm : most ≤ 5) (hm1 : 1 ≤ most) (hmi : mi = (most : Int)) (hr : Rd 108 s b st w) :
    Calls Tryz.prog 41 #[.pointer (some ⟨b, 0, none⟩), .int .i64 mi] w fun e w' => e = .returned (.int .i64 ((Hx.numF s most st).1 : Int)) ∧ Rd 108 s b (Hx.numF s most st).2 w' ∧ w.grownBy w' (some b) := by
  subst hmi
  have HR := hide hr
  clear hr
  go_enter Tryz.func41, Tryz.ntmps41
  go_wp2_with fail
  refine (one_any s b st 48 57 _ _ _ hs hp rfl rfl (by omega) (unhide HR)).mono ?_
  rintro e w1 ⟨rfl, hr1, hg1⟩
  have HN := hide (Hx.numF_one (s := s) (most := most) (st := st) hm1)
  have hp1 := Hx.oneF_le (s := s) (lo := 48) (hi := 57) (st := st) (by omega) hp
  generalize Hx.oneF s 48 57 st = o at *
  have HR1 := hide hr1
  have HG1 := hide hg1
  clear hr1 hg1
  go_wp2_with fail
  go_loopg [5, 6] (most - 1) (fun gk n k wr => ∃ (kn m : Nat) (st' : Hx.St), 1 ≤ kn ∧ kn ≤ most ∧ gk = most - kn ∧ k = .int .i64 (kn : Int) ∧ n = .int .i64 (m : Int) ∧ m < 10 ^ kn ∧ st'.pos ≤ s.size ∧ Rd 108 s b st' wr ∧ w.grownBy wr (some b) ∧
    ((m = 0 ∧ (0, st') = Hx.numF s most st) ∨ (0 < m ∧ st'.bad = false ∧ ((Hx.digF s (most - kn) st'.pos m).1, (⟨(Hx.digF s (most - kn) st'.pos m).2, false⟩ : Hx.St)) = Hx.numF s most st)))
  case atStart =>
    refine ⟨1, o.1, o.2, Nat.le_refl _, hm1, rfl, rfl, rfl, ?_, hp1, unhide HR1, unhide HG1, ?_⟩
    · rcases unhide HN with h | h
      · rw [h.1]; decide
      · have := h.2.1; omega
    · rcases unhide HN with h | h
      · exact Or.inl h
      · exact Or.inr ⟨h.1, h.2.2.1, h.2.2.2⟩
  case round =>
    clear HN HR1 HG1 hp1
    obtain ⟨kn, m, st', hk1, hk2, rfl, rfl, rfl, hmk, hpos, hrd, hgr, hcase⟩ := hrel
    have c0 := hrd.c0
    have c1 := hrd.c1
    have c2 := hrd.c2
    have f1 := hrd.fz 1
    have HRD := hide hrd
    have HGR := hide hgr
    have hm5 : m < 100000 := Nat.lt_of_lt_of_le hmk (Nat.le_trans (Nat.pow_le_pow_right (by omega) (show kn ≤ 5 by omega)) (by decide))
    have HMK := hide hmk
    clear hrd hgr hmk
    obtain ⟨pos, bad⟩ := st'
    simp only at c1 c2 hpos hcase
    rcases hcase with ⟨rfl, hfin⟩ | ⟨hm0, rfl, hfin⟩
    · have HFIN := hide hfin
      clear hfin
      by_cases hlt : kn < most
      · go_wp2_with fail
        go_quiet (fail)
        go_wp2_with fail
        go_returns
        rw [← unhide HFIN]
        exact ⟨rfl, Rd.drewN (unhide HRD) _, grown_trans (unhide HGR) (grown_drewN _ _ _)⟩
      · have hd : decide (kn < most) = false := by simp; omega
        go_wp2_with fail
        go_quiet (fail)
        go_wp2_with fail
        go_returns
        rw [← unhide HFIN]
        exact ⟨rfl, Rd.drewN (unhide HRD) _, grown_trans (unhide HGR) (grown_drewN _ _ _)⟩
    · have HFIN := hide hfin
      clear hfin
      by_cases hlt : kn < most
      · by_cases hin : pos < s.size
        · have HB := hide (Hx.byteAt_lt hin)
          by_cases h48 : (48 : Int) ≤ ((s[pos]'hin).toNat : Int)
          · by_cases h57 : ((s[pos]'hin).toNat : Int) ≤ 57
            · have h48n : 48 ≤ Hx.byteAt s pos ∧ Hx.byteAt s pos ≤ 57 := by rw [unhide HB]; omega
              have hfin2 := hide (show ((Hx.digF s (most - (kn + 1)) (pos + 1) (m * 10 + (Hx.byteAt s pos - 48))).1, (⟨(Hx.digF s (most - (kn + 1)) (pos + 1) (m * 10 + (Hx.byteAt s pos - 48))).2, false⟩ : Hx.St)) = Hx.numF s most st by
                have := unhide HFIN
                rw [show most - kn = (most - (kn + 1)) + 1 by omega, Hx.digF_step h48n] at this
                exact this)
              have hm10 := hide (show m * 10 + (Hx.byteAt s pos - 48) < 10 ^ (kn + 1) by
                have := unhide HMK
                rw [Nat.pow_succ]; omega)
              have hval := hide (show ((m * 10 + (Hx.byteAt s pos - 48) : Nat) : Int) = 10 * (m : Int) + (((s[pos]'hin).toNat : Int) - 48) by
                rw [unhide HB]; omega)
              have hpm := hide (show 0 < m * 10 + (Hx.byteAt s pos - 48) by omega)
              clear h48n
              go_wp2_with fail
              go_quiet (fail)
              go_wp2_with fail
              go_quiet (fail)
              go_wp2_with fail
              go_roundg (most - (kn + 1))
              case measure => omega
              case rel =>
                refine ⟨kn + 1, m * 10 + (Hx.byteAt s pos - 48), ⟨pos + 1, false⟩, by omega, by omega, rfl, by go_num, by rw [unhide hval], unhide hm10, ?_, ?_, ?_, Or.inr ⟨unhide hpm, rfl, unhide hfin2⟩⟩
                · show pos + 1 ≤ s.size; omega
                · exact Rd.set1 (Rd.drewN (unhide HRD) _) (pos + 1)
                · exact grown_trans (unhide HGR) (grown_trans (grown_drewN _ _ _) (grown_set _ _ _ _))
            · have h57' : decide ((s[pos]'hin).toNat ≤ 57) = false := by simp; omega
              have HFIN2 := hide (show (m, (⟨pos, false⟩ : Hx.St)) = Hx.numF s most st by
                have := unhide HFIN
                rw [Hx.digF_stop (by rw [unhide HB]; omega)] at this
                exact this)
              go_wp2_with fail
              go_quiet (fail)
              go_wp2_with fail
              go_returns
              rw [← unhide HFIN2]
              exact ⟨rfl, Rd.drewN (unhide HRD) _, grown_trans (unhide HGR) (grown_drewN _ _ _)⟩
          · have h48' : decide ((48 : Int) ≤ ((s[pos]'hin).toNat : Int)) = false := by simp; omega
            have HFIN2 := hide (show (m, (⟨pos, false⟩ : Hx.St)) = Hx.numF s most st by
              have := unhide HFIN
              rw [Hx.digF_stop (by rw [unhide HB]; omega)] at this
              exact this)
            go_wp2_with fail
            go_quiet (fail)
            go_wp2_with fail
            go_returns
            rw [← unhide HFIN2]
            exact ⟨rfl, Rd.drewN (unhide HRD) _, grown_trans (unhide HGR) (grown_drewN _ _ _)⟩
        · have hin' : decide (pos < s.size) = false := by simp; omega
          have HFIN2 := hide (show (m, (⟨pos, false⟩ : Hx.St)) = Hx.numF s most st by
            have := unhide HFIN
            rw [Hx.digF_stop (by rw [Hx.byteAt_ge (by omega)]; omega)] at this
            exact this)
          go_wp2_with fail
          go_quiet (fail)
          go_wp2_with fail
          go_returns
          rw [← unhide HFIN2]
          exact ⟨rfl, Rd.drewN (unhide HRD) _, grown_trans (unhide HGR) (grown_drewN _ _ _)⟩
      · have hd : decide (kn < most) = false := by simp; omega
        have HFIN2 := hide (show (m, (⟨pos, false⟩ : Hx.St)) = Hx.numF s most st by
          have := unhide HFIN
          rw [show most - kn = 0 by omega] at this
          exact this)
        go_wp2_with fail
        go_quiet (fail)
        go_wp2_with fail
        go_returns
        rw [← unhide HFIN2]
        exact ⟨rfl, Rd.drewN (unhide HRD) _, grown_trans (unhide HGR) (grown_drewN _ _ _)⟩

end Go.Proofs.YtppcnlkhdgmaiabGreatDoor
