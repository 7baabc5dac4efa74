/- What the law does at a step that is a Run. -/
import Derived.Test.YtppcnlkhdgmaiaaGreatDoorRnB
namespace Go.Proofs.YtppcnlkhdgmaiaaGreatDoor
open Go.RowKit

/-- What Run wants of memory: the two tables, and the library's powers of ten. -/
def RunE (w : World) : Prop := Tab w ∧ Onm w ∧ P10 w
theorem lasts_run : Lasts RunE := fun _ _ h hb => ⟨h.1.below hb, h.2.1.below hb, h.2.2.below hb⟩

set_option maxRecDepth 100000 in
set_option maxHeartbeats 4000000 in
theorem plays_run (n : Int) (s t : ByteArray) (w : World) (hs : s.size ≤ maxLen) (ht : t.size ≤ maxLen) (hE : RunE w) :
    Calls Tryz.prog 8 #[.agg #[.int .i64 4, .int .i64 n, .string s, .string t]] w fun e w' => e = .returned (.bool true) ∧ Below w.heap.size w w' := by
  have HE := hide (lasts_run.alloc hE (.cells #[.int .i64 4, .int .i64 n, .string s, .string t] 26))
  have HR := hide (run_any s t _ hs ht (unhide HE).1 (unhide HE).2.1 (unhide HE).2.2)
  have HS := hide hs
  have HT := hide ht
  clear hE hs ht
  go_enter Tryz.func8, Tryz.ntmps8
  go_wp2_with fail
  refine (unhide HR).mono ?_
  rintro e w1 ⟨rfl, hb1⟩
  have c2 : w1.cell? ⟨w.heap.size, 2, none⟩ = some (.string s) := by
    rw [hb1.cell (p := ⟨w.heap.size, 2, none⟩) (by simp)]
    exact blk_cell (blk_new w #[.int .i64 4, .int .i64 n, .string s, .string t] 26) 2
  have c3 : w1.cell? ⟨w.heap.size, 3, none⟩ = some (.string t) := by
    rw [hb1.cell (p := ⟨w.heap.size, 3, none⟩) (by simp)]
    exact blk_cell (blk_new w #[.int .i64 4, .int .i64 n, .string s, .string t] 26) 3
  have HB1 := hide (((Below.refl w.heap.size w).alloc (Nat.le_refl _) _).trans (hb1.mono (by simp)))
  clear hb1
  go_wp2_with fail
  refine (refrun_all s t _ (unhide HS) (unhide HT)).mono ?_
  rintro e w2 ⟨rfl, hb2⟩
  have HB2 := hide ((unhide HB1).trans (hb2.mono (unhide HB1).size))
  clear hb2
  go_wp2_with fail
  refine (num_any _ _).mono ?_
  rintro e w3 ⟨rfl, rfl⟩
  have e2 : ((Hx.refRunF s t).2 == (Hx.refRunF s t).2) = true := by simp
  go_wp2_with fail
  go_returns
  exact ⟨rfl, unhide HB2⟩

theorem plays_runs : Plays RunE 4 4 := fun k n s t w h1 h2 hs ht hE => by
  obtain rfl : k = 4 := by omega
  exact plays_run n s t w hs ht hE

end Go.Proofs.YtppcnlkhdgmaiaaGreatDoor
