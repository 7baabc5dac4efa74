/- What the law does at a step that is a Check. -/
import Derived.Test.YtppcnlkhdgmaiaaGreatDoorLa
import Derived.Test.YtppcnlkhdgmaiaaGreatDoorRfF
namespace Go.Proofs.YtppcnlkhdgmaiaaGreatDoor
open Go.RowKit

set_option maxRecDepth 100000 in
set_option maxHeartbeats 4000000 in
theorem plays_check (n : Int) (s t : ByteArray) (w : World) (hs : s.size ≤ maxLen) (ht : Tab w) :
    Calls Tryz.prog 8 #[.agg #[.int .i64 1, .int .i64 n, .string s, .string t]] w fun e w' => e = .returned (.bool true) ∧ Below w.heap.size w w' := by
  have HT := hide ht
  have HS := hide hs
  clear ht hs
  go_enter Tryz.func8, Tryz.ntmps8
  go_wp2_with fail
  refine (check_any s _ (unhide HS) (Tab.alloc (unhide HT) _)).mono ?_
  rintro e w1 ⟨rfl, hb1⟩
  have c2 : w1.cell? ⟨w.heap.size, 2, none⟩ = some (.string s) := by
    rw [hb1.cell (p := ⟨w.heap.size, 2, none⟩) (by simp)]
    exact blk_cell (blk_new w #[.int .i64 1, .int .i64 n, .string s, .string t] 26) 2
  have HB1 := hide (((Below.refl w.heap.size w).alloc (Nat.le_refl _) _).trans (hb1.mono (by simp)))
  clear hb1
  go_wp2_with fail
  refine (refcheck_any s _ (unhide HS)).mono ?_
  rintro e w2 ⟨rfl, hb2⟩
  have HB2 := hide ((unhide HB1).trans (hb2.mono (unhide HB1).size))
  clear hb2
  go_wp2_with fail
  refine (num_any _ _).mono ?_
  rintro e w3 ⟨rfl, rfl⟩
  have e1 : (((Hx.checkF s).1 : Int) == ((Hx.checkF s).1 : Int)) = true := by simp
  have e2 : (((Hx.checkF s).2 : Int) == ((Hx.checkF s).2 : Int)) = true := by simp
  go_wp2_with fail
  go_returns
  exact ⟨rfl, unhide HB2⟩


theorem plays_checks : Plays Tab 1 1 := fun k n s t w h1 h2 hs _ ht => by
  obtain rfl : k = 1 := by omega
  exact plays_check n s t w hs ht
end Go.Proofs.YtppcnlkhdgmaiaaGreatDoor
