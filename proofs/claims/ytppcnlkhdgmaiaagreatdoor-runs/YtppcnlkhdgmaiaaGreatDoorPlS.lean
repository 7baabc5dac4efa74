/- What the program writes: lowestFree, bounds.write. -/
import Derived.Test.YtppcnlkhdgmaiaaGreatDoorPlA
import Derived.Test.YtppcnlkhdgmaiaaGreatDoorShelf
import Derived.Lib.AppendIntMem
import Derived.Lib.SmallJoins
namespace Go.Proofs.YtppcnlkhdgmaiaaGreatDoor
open Go.RowKit

abbrev P10 (w : World) : Prop := Lib.TabIs Tryz.prog w "internal/strconv.uint64pow10" .u64 Lib.pow10Tab

set_option maxRecDepth 100000 in
set_option maxHeartbeats 4000000 in
theorem low_any (b n c m : Nat) (zs : List Int) (w : World) (hz : n = zs.length) (hbig : n ≤ 100000) (hc : ∀ j, j < zs.length → w.cell? ⟨b, 0 + j, none⟩ = some (.int .i64 (zs.getD j 0)))
    (hm : m ≤ 100000) (hlow : ∀ k : Nat, k < m → zs.contains (k : Int) = true) (hfree : zs.contains (m : Int) = false) :
    Calls Tryz.prog 54 #[.slice (some ⟨b, 0, none⟩) n c] w fun e w' => e = .returned (.int .i64 (m : Int)) ∧ w' = w := by
  subst hz
  have HC := hide hc
  have HL := hide hlow
  have HF := hide hfree
  clear hc hlow hfree
  go_enter Tryz.func54, Tryz.ntmps54
  go_wp2_with fail
  go_loopg [3] m (fun gk kk wr => ∃ k : Nat, k ≤ m ∧ gk = m - k ∧ kk = .int .i64 (k : Int) ∧ wr = w)
  case atStart => exact ⟨0, Nat.zero_le _, rfl, rfl, rfl⟩
  case round =>
    obtain ⟨k, hk, rfl, rfl, rfl⟩ := hrel
    by_cases hlt : k < m
    · have hq : (zs.take zs.length).contains (k : Int) = true := by rw [List.take_length]; exact unhide HL k hlt
      go_wp2_with (go_at_call 80; refine (Tryz.slices_Contains_int b 0 zs.length c zs (k : Int) _ (Nat.le_refl _) (by omega) (unhide HC)).mono ?_; rintro e w' ⟨rfl, rfl⟩; rw [hq])
      go_roundg (m - (k + 1))
      case measure => omega
      case rel => exact ⟨k + 1, by omega, rfl, by go_num, rfl⟩
    · have hkm : k = m := by omega
      subst hkm
      have hq : (zs.take zs.length).contains (k : Int) = false := by rw [List.take_length]; exact unhide HF
      go_wp2_with (go_at_call 80; refine (Tryz.slices_Contains_int b 0 zs.length c zs (k : Int) _ (Nat.le_refl _) (by omega) (unhide HC)).mono ?_; rintro e w' ⟨rfl, rfl⟩; rw [hq])
      go_returns
      exact ⟨rfl, rfl⟩

end Go.Proofs.YtppcnlkhdgmaiaaGreatDoor
