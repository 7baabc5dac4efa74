/- How the document reads a script: Script. -/
import Derived.Test.YtppcnlkhdgmaiaaGreatDoorRgK
namespace Go.Proofs.YtppcnlkhdgmaiaaGreatDoor
open Go.RowKit


set_option maxRecDepth 100000 in
set_option maxHeartbeats 4000000 in
theorem script_any (s : ByteArray) (w : World) (hs : s.size ≤ 1000000) :
    Calls Tryz.prog 35 #[.string s] w fun e w' => Below w.heap.size w w' ∧ ∃ va vb, e = .returned (.tuple #[va, vb, .bool (Hx.scrOk s)]) ∧ w'.ownsRow w.heap.size 3 1 va (Hx.scr1 s).1.length (ints (nats (Hx.scr1 s).1)) ∧ w'.ownsRow w.heap.size 3 1 vb (Hx.scr2 s).1.length (ints (nats (Hx.scr2 s).1)) ∧ (Hx.scr1 s).1.length ≤ s.size + 1 ∧ (Hx.scr2 s).1.length ≤ s.size + 1 := by
  go_enter Tryz.func35, Tryz.ntmps35
  go_upto_region 2 with fail
  obtain ⟨w1, hw1⟩ : ∃ w1, w1 = w.alloc (.cells #[.string s, .int .i64 0, .bool false] 108) := ⟨_, rfl⟩
  have hr : Rd 108 s w.heap.size ⟨0, false⟩ w1 := by rw [hw1]; exact blk_new w _ _
  have hbe : Below w.heap.size w w1 := by rw [hw1]; exact (Below.refl _ _).alloc (Nat.le_refl _) _
  rw [← hw1]
  have hsz1 : w1.heap.size = w.heap.size + 1 := by rw [hw1, size_alloc_]
  clear hw1
  have HR := hide hr
  have HBE := hide hbe
  clear hr hbe
  go_wp2_with fail
  refine (numbers_bar s _ ⟨0, false⟩ _ hs (Nat.zero_le _) (unhide HR)).mono ?_
  rintro e w2 ⟨va, rfl, hr2, ho2, hl2, hg2⟩
  have HR2 : Hid (Rd 108 s w.heap.size (Hx.scr1 s).2 w2) := hr2
  have HO2 : Hid (w2.ownsRow (w.heap.size + 1) 3 1 va (Hx.scr1 s).1.length (ints (nats (Hx.scr1 s).1))) := by rw [hsz1] at ho2; exact ho2
  have HL2 : Hid ((Hx.scr1 s).1.length ≤ s.size + 1) := hl2
  have HBE2 := hide ((unhide HBE).grown hg2 (unhide HBE).size (fun k e => by cases e; exact Nat.le_refl _))
  clear hr2 ho2 hl2 hg2 HR HBE hsz1
  have P2 : (Hx.scr1 s).2.pos ≤ s.size := Hx.numbersF_le (Nat.zero_le _)
  go_wp2_with fail
  refine (must_any s _ (Hx.scr1 s).2 _ 47 _ hs P2 rfl (by omega) (unhide HR2)).mono ?_
  rintro e w3 ⟨rfl, hr3, hg3⟩
  have HR3 := hide hr3
  have HO3 := hide ((unhide HO2).kept hg3 (own_ne (unhide HO2) (by omega)))
  have HBE3 := hide ((unhide HBE2).grown hg3 (unhide HBE2).size (fun k e => by cases e; exact Nat.le_refl _))
  clear hr3 hg3 HR2 HO2 HBE2
  have P3 : (Hx.takeF s 47 (Hx.scr1 s).2).pos ≤ s.size := Hx.takeF_le (by omega) P2
  go_wp2_with fail
  refine (numbers_zero s _ _ _ hs P3 (unhide HR3)).mono ?_
  rintro e w4 ⟨vb, rfl, hr4, ho4, hl4, hg4⟩
  have HR4 : Hid (Rd 108 s w.heap.size (Hx.scr2 s).2 w4) := hr4
  have HO4 : Hid (w4.ownsRow w.heap.size 3 1 vb (Hx.scr2 s).1.length (ints (nats (Hx.scr2 s).1))) := World.ownsRow.mono ho4 (unhide HBE3).size
  have HOA : Hid (w4.ownsRow w.heap.size 3 1 va (Hx.scr1 s).1.length (ints (nats (Hx.scr1 s).1))) := World.ownsRow.mono ((unhide HO3).kept hg4 (own_ne (unhide HO3) (by omega))) (by omega)
  have HL4 : Hid ((Hx.scr2 s).1.length ≤ s.size + 1) := hl4
  have HBE4 := hide ((unhide HBE3).grown hg4 (unhide HBE3).size (fun k e => by cases e; exact Nat.le_refl _))
  clear hr4 ho4 hl4 hg4 HR3 HO3 HBE3 P2 P3
  have HOK : Hid (Hx.scrOk s = (!(Hx.scr2 s).2.bad && (Hx.scr2 s).2.pos == s.size)) := by show _ = _; rfl
  obtain ⟨st, hst⟩ : ∃ st, st = (Hx.scr2 s).2 := ⟨_, rfl⟩
  rw [← hst] at HR4 HOK
  clear hst
  obtain ⟨pos, bad⟩ := st
  have c1 : w4.cell? ⟨w.heap.size, 1, none⟩ = some (.int .i64 (pos : Int)) := (unhide HR4).c1
  have c2 : w4.cell? ⟨w.heap.size, 2, none⟩ = some (.bool bad) := (unhide HR4).c2
  simp only at HOK
  cases bad
  · by_cases he : pos = s.size
    · have hq : ((pos : Int) == (s.size : Int)) = true := by simp; omega
      have HK : Hid (Hx.scrOk s = true) := by show _ = _; rw [unhide HOK, he]; simp
      clear he
      go_wp2_with fail
      go_quiet (fail)
      go_wp2_with fail
      go_returns
      exact ⟨(unhide HBE4).grown (grown_drewN _ _ none) (unhide HBE4).size (by simp), va, vb, by rw [unhide HK]; rfl, unhide HOA, unhide HO4, unhide HL2, unhide HL4⟩
    · have hq : ((pos : Int) == (s.size : Int)) = false := by simp; omega
      have HK : Hid (Hx.scrOk s = false) := by show _ = _; rw [unhide HOK]; simp [he]
      clear he
      go_wp2_with fail
      go_quiet (fail)
      go_wp2_with fail
      go_returns
      exact ⟨(unhide HBE4).grown (grown_drewN _ _ none) (unhide HBE4).size (by simp), va, vb, by rw [unhide HK]; rfl, unhide HOA, unhide HO4, unhide HL2, unhide HL4⟩
  · have HK : Hid (Hx.scrOk s = false) := by show _ = _; rw [unhide HOK]; simp
    go_wp2_with fail
    go_quiet (fail)
    go_wp2_with fail
    go_returns
    exact ⟨(unhide HBE4).grown (grown_drewN _ _ none) (unhide HBE4).size (by simp), va, vb, by rw [unhide HK]; rfl, unhide HOA, unhide HO4, unhide HL2, unhide HL4⟩
end Go.Proofs.YtppcnlkhdgmaiaaGreatDoor
