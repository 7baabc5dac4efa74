/- What the machine's run does. -/
import Derived.Test.YtppcnlkhdgmaiaaGreatDoorRmD
namespace Go.Proofs.YtppcnlkhdgmaiaaGreatDoor
open Go.RowKit

theorem lookM_time {l : List Hx.TStp} {J : Nat} {takes : List Nat} : ∀ (n : Nat) (m : Hx.Ms), Hx.muM l m = n → (Hx.lookM l J takes m).2.time = m.time := by
  intro n
  induction n using Nat.strongRecOn with
  | ind n ih =>
    intro m hn
    cases ho : Hx.oneM l J takes m with
    | mk r m' =>
      have ht := Hx.oneM_time ho
      cases r with
      | none =>
        rw [Hx.lookM_none ho, ih _ (by have := Hx.oneM_mu ho; omega) m' rfl]
        exact ht
      | some e => rw [Hx.lookM_some ho]; exact ht
theorem MOk.later {l m} (h : MOk l m) (c : Nat) (hc : m.time + c ≤ 1000000) : MOk l { m with time := m.time + c } := ⟨h.work, h.free, hc, h.sts, h.rb, h.rbs⟩
theorem Mem.later {h w0 w m sv xs} (x : Mem h w0 w m sv xs) (s : Stat h w0) (c : Nat) : Mem h w0 (w.setCell ⟨h.b, 4, none⟩ (.int .i64 ((m.time : Int) + (c : Int)))) { m with time := m.time + c } sv xs := by
  have := x.put s 4 (.int .i64 ((m.time + c : Nat) : Int)) { m with time := m.time + c } sv rfl x.row
  rw [Int.natCast_add] at this
  exact this

set_option maxRecDepth 100000 in
set_option maxHeartbeats 4000000 in
theorem mrun_any (h : Mh) (w0 w : World) (m : Hx.Ms) (sv : Value) (hs : Stat h w0) (hm : Mem h w0 w m sv (stsCells m.sts)) (ho : MOk h.l m) (ht : m.time + h.clock.sum ≤ 1000000) :
    Calls Tryz.prog 33 #[.pointer (some ⟨h.b, 0, none⟩)] w fun e w' => e = .returned (.int .i64 ((Hx.runM h.l h.J h.takes h.clock (Hx.lookM h.l h.J h.takes m)).1 : Int)) ∧ ∃ sv', Mem h w0 w' (Hx.runM h.l h.J h.takes h.clock (Hx.lookM h.l h.J h.takes m)).2 sv' (stsCells (Hx.runM h.l h.J h.takes h.clock (Hx.lookM h.l h.J h.takes m)).2.sts) := by
  have HL := hide (mlook_any h w0 w m sv hs hm ho)
  have hok0 := lookM_ok (J := h.J) hs.kn _ m rfl ho
  have htm0 := lookM_time (l := h.l) (J := h.J) (takes := h.takes) _ m rfl
  obtain ⟨R, hR⟩ : ∃ R, R = Hx.runM h.l h.J h.takes h.clock (Hx.lookM h.l h.J h.takes m) := ⟨_, rfl⟩
  rw [← hR]
  obtain ⟨r0, hr0⟩ : ∃ r0, r0 = Hx.lookM h.l h.J h.takes m := ⟨_, rfl⟩
  rw [← hr0] at HL hok0 htm0 hR
  have HR := hide hR
  have HOK0 := hide hok0
  have hsum : r0.2.time + (h.clock.drop 0).sum ≤ 1000000 := by rw [htm0, List.drop_zero]; exact ht
  have HSUM := hide hsum
  have HS := hide hs
  have hcl := hs.cl
  obtain ⟨ac, capc, ecv⟩ := own_form hs.c
  have HEC := hide ecv
  clear hs hm ho ht hR hok0 htm0 hr0 hsum ecv
  go_enter Tryz.func33, Tryz.ntmps33
  go_wp2_with (go_at_call 65; refine (unhide HL).mono ?_; rintro e w1 ⟨rfl, sv1, hm1⟩; have c2 : w1.cell? ⟨h.b, 2, none⟩ = some h.cv := blk_cell hm1.blk 2; rw [unhide HEC] at c2; have HM1 := hide hm1; clear hm1)
  clear HL
  go_loopg [3, 14] h.clock.length (fun gk s3 ii wr => ∃ (k : Nat) (r : Nat × Hx.Ms) (sv2 : Value), k ≤ h.clock.length ∧ gk = h.clock.length - k ∧ ii = .int .i64 (k : Int) ∧ s3 = .int .i64 (r.1 : Int) ∧ Mem h w0 wr r.2 sv2 (stsCells r.2.sts) ∧ MOk h.l r.2 ∧ r.2.time + (h.clock.drop k).sum ≤ 1000000 ∧ Hx.runM h.l h.J h.takes (h.clock.drop k) r = R)
  case atStart => exact ⟨0, r0, _, Nat.zero_le _, rfl, rfl, rfl, unhide HM1, unhide HOK0, unhide HSUM, (unhide HR).symm⟩
  case round =>
    clear c2 HM1 HOK0 HSUM HR
    obtain ⟨k, r, sv2, hk, rfl, rfl, rfl, hm, hok, hsum, hfin⟩ := hrel
    have HM := hide hm
    have HOK := hide hok
    by_cases hlt : k < h.clock.length
    · obtain ⟨c, hc⟩ : ∃ c, h.clock[k]? = some c := ⟨_, List.getElem?_eq_getElem hlt⟩
      have hdr : h.clock.drop k = c :: h.clock.drop (k + 1) := by
        obtain ⟨hk2, e⟩ := List.getElem?_eq_some_iff.1 hc
        rw [List.drop_eq_getElem_cons hk2, e]
      rw [hdr] at hsum hfin
      rw [List.sum_cons] at hsum
      have hltI : (k : Int) < (h.clock.length : Int) := by omega
      obtain ⟨gc, capc2, ec2, _, _⟩ := own_pos (hm.ck (unhide HS)) (by omega)
      have cc : wr.cell? ⟨gc, k, none⟩ = some (.int .i64 (c : Int)) := by
        have hrow := hm.ck (unhide HS)
        rw [ec2] at hrow
        rw [hrow.cellAt k (by omega)]
        exact ints_at _ _ _ (nats_at _ _ _ hc)
      rw [unhide HEC] at ec2
      cases ec2
      have c4 : wr.cell? ⟨h.b, 4, none⟩ = some (.int .i64 (r.2.time : Int)) := blk_cell hm.blk 4
      have f4 := blk_free hm.blk 4
      by_cases h0 : r.1 = 0
      · rw [Hx.runM_cons h0] at hfin
        have h0I : ((r.1 : Int) != 0) = false := by simp [h0]
        have hok2 := hok.later c (by omega)
        have HL2 := hide (fun W hW => mlook_any h w0 W { r.2 with time := r.2.time + c } sv2 (unhide HS) hW hok2)
        have hok3 := lookM_ok (J := h.J) (unhide HS).kn _ _ rfl hok2
        have htm3 := lookM_time (l := h.l) (J := h.J) (takes := h.takes) _ { r.2 with time := r.2.time + c } rfl
        obtain ⟨r2, hr2⟩ : ∃ r2, r2 = Hx.lookM h.l h.J h.takes { r.2 with time := r.2.time + c } := ⟨_, rfl⟩
        rw [← hr2] at hfin hok3 htm3 HL2
        simp only at htm3
        have HFIN := hide hfin
        have HOK3 := hide hok3
        have hsum2 : r2.2.time + (h.clock.drop (k + 1)).sum ≤ 1000000 := by rw [htm3]; omega
        have HSUM2 := hide hsum2
        have htb : r.2.time ≤ 1000000 ∧ c ≤ 1000000 := by omega
        have hML := (unhide HM).later (unhide HS) c
        have HML := hide hML
        clear hm hok hfin hok2 hok3 htm3 hr2 hsum2 h0 hsum hdr hc hML
        go_wp2_with (go_at_call 65; refine (unhide HL2 _ (unhide HML)).mono ?_; rintro e w3 ⟨rfl, sv3, hm3⟩; have HM3 := hide hm3; clear hm3)
        go_roundg (h.clock.length - (k + 1))
        case measure => omega
        case rel => exact ⟨k + 1, r2, sv3, by omega, rfl, by go_num, rfl, unhide HM3, unhide HOK3, unhide HSUM2, unhide HFIN⟩
      · have h0I : ((r.1 : Int) != 0) = true := by simp; omega
        have HF : Hid (r = R) := by show _ = _; rw [← hfin, Hx.runM_end h0]
        clear hm hok hfin h0 hsum hdr hc
        go_wp2_with fail
        go_returns
        rw [← unhide HF]
        exact ⟨rfl, _, unhide HM⟩
    · have HF : Hid (r = R) := by
        show _ = _
        rw [← hfin, List.drop_eq_nil_iff.2 (by omega)]; rfl
      have hltI : ¬ (k : Int) < (h.clock.length : Int) := by omega
      clear hm hok hfin hsum
      go_wp2_with fail
      go_returns
      rw [← unhide HF]
      exact ⟨rfl, _, unhide HM⟩

end Go.Proofs.YtppcnlkhdgmaiaaGreatDoor
