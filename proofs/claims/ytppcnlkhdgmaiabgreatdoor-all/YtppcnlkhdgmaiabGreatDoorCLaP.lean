/- What the law does at a step that is a Plan. -/
import Derived.Test.YtppcnlkhdgmaiabGreatDoorCPlC
import Derived.Test.YtppcnlkhdgmaiabGreatDoorCRpA
import Derived.Test.YtppcnlkhdgmaiabGreatDoorCEqC
namespace Go.Proofs.YtppcnlkhdgmaiabGreatDoor
open Go.RowKit

set_option maxRecDepth 100000 in
set_option maxHeartbeats 4000000 in
theorem plays_plan (n : Int) (s t : ByteArray) (w : World) (hs : s.size ≤ maxLen) (hE : RunE w) :
    Calls Tryz.prog 5 #[.agg #[.int .i64 2, .int .i64 n, .string s, .string t]] w fun e w' => e = .returned (.bool true) ∧ Below w.heap.size w w' := by
  have HE := hide (lasts_run.alloc hE (.cells #[.int .i64 2, .int .i64 n, .string s, .string t] 26))
  obtain ⟨FIN, hFIN⟩ : ∃ FIN, FIN = Hx.planF s n := ⟨_, rfl⟩
  have HR := hide (plan_any s n _ hs (unhide HE).1 (unhide HE).2.2)
  have HQ : Hid (∀ w', Calls Tryz.prog 10 #[.string s, .int .i64 n] w' fun e w2 => e = .returned (.tuple #[.string ⟨FIN.1.toArray⟩, .bool FIN.2.1, .int .i64 FIN.2.2]) ∧ Below w'.heap.size w' w2) := fun w' => by
    rw [hFIN]; exact refplan_any s n w' hs
  rw [← hFIN] at HR
  clear hE hs hFIN
  go_enter Tryz.func5, Tryz.ntmps5
  go_wp2_with fail
  refine (unhide HR).mono ?_
  rintro e w1 ⟨rfl, hb1⟩
  have c1 : w1.cell? ⟨w.heap.size, 1, none⟩ = some (.int .i64 n) := by
    rw [hb1.cell (p := ⟨w.heap.size, 1, none⟩) (by simp)]
    exact blk_cell (blk_new w #[.int .i64 2, .int .i64 n, .string s, .string t] 26) 1
  have c2 : w1.cell? ⟨w.heap.size, 2, none⟩ = some (.string s) := by
    rw [hb1.cell (p := ⟨w.heap.size, 2, none⟩) (by simp)]
    exact blk_cell (blk_new w #[.int .i64 2, .int .i64 n, .string s, .string t] 26) 2
  have HB1 := hide (((Below.refl w.heap.size w).alloc (Nat.le_refl _) _).trans (hb1.mono (by simp)))
  clear hb1
  go_wp2_with fail
  refine (unhide HQ _).mono ?_
  rintro e w2 ⟨rfl, hb2⟩
  have HB2 := hide ((unhide HB1).trans (hb2.mono (unhide HB1).size))
  clear hb2
  go_wp2_with fail
  refine (num_any _ _).mono ?_
  rintro e w3 ⟨rfl, rfl⟩
  have e2 : (FIN.2.2 == FIN.2.2) = true := by simp
  go_wp2_with fail
  go_returns
  exact ⟨rfl, unhide HB2⟩

theorem plays_plans : Plays RunE 2 2 := fun k n s t w h1 h2 hs ht hE => by
  obtain rfl : k = 2 := by omega
  exact plays_plan n s t w hs hE

end Go.Proofs.YtppcnlkhdgmaiabGreatDoor
