/- What the builder's WriteString does. -/
import Derived.Test.YtppcnlkhdgmaiaaGreatDoorPlV
namespace Go.Proofs.YtppcnlkhdgmaiaaGreatDoor
open Go.RowKit

set_option maxHeartbeats 1000000 in
set_option maxRecDepth 100000 in
theorem ws_any (B b : Nat) (bs : List Value) (s : ByteArray) (w : World) (h : Lib.IsBuilder 123 5 B b bs w) (hlen : bs.length + s.size ≤ 1000000) (hBw : B ≤ w.heap.size) :
    Calls Tryz.prog 50 #[.pointer (some ⟨b, 0, none⟩), .string s] w fun e w' => e = .returned (.tuple #[.int .i64 s.size, .nilIface]) ∧ (Lib.BuilderAt 123 5 B b (.pointer (some ⟨b, 0, none⟩)) (bs ++ Lib.strCells s) w' ∧ Below B w w') := by
  obtain ⟨i0, hi, hz0, hz1, hz2⟩ := info_parts infoB
  have HI := hide hi
  have HZ0 := hide hz0
  have HZ1 := hide hz1
  have HZ2 := hide hz2
  have HH := hide h
  clear hi hz0 hz1 hz2 h
  go_enter Tryz.func50, Tryz.ntmps50
  go_wp2_with (go_at_call 77; refine (cc_any B b bs _ (unhide HH)).mono ?_)
  rintro e w1 ⟨rfl, ⟨hB, v, hbk, hown, hne⟩, hb1⟩
  have HK := hide hbk
  have HO := hide hown
  have HB1 := hide hb1
  have c1 : w1.cell? ⟨b, 1, none⟩ = some v := blk_cell hbk 1
  have hsz := hb1.size
  clear hbk hown hb1
  go_wp2_with (at_builtin; refine Lib.wpList_append_own_string _ rfl _ _ 115 9 rfl B 5 i0 Tryz.underlying115 Tryz.underlying9 (unhide HI) (unhide HZ0) (unhide HZ1) (unhide HZ2) _ _ _ rfl (unhide HO) s rfl ?c3 ?c4 ?c5 ?_)
  case c3 => unfold maxLen; omega
  case c4 => omega
  case c5 => omega
  intro v' w2 hown' hgrow _
  have hb2 : w2.heap[b]? = some (.cells #[.pointer (some ⟨b, 0, none⟩), v] 123 (0, 0)) := by
    rw [hgrow.block b (lt_of_block (unhide HK)) (fun e => hne e.symm)]
    exact unhide HK
  have HK2 := hide hb2
  have HO2 := hide hown'
  have HG2 := hide hgrow
  have f1 : w2.frozen? ⟨b, 1, none⟩ = false := Lib.frozen_of_heap hb2 1
  have d1 : w2.cell? ⟨b, 1, none⟩ = some v := blk_cell hb2 1
  obtain ⟨ao, cap, rfl⟩ := own_form hown'
  clear hb2 hown' hgrow
  go_wp2_with fail
  go_ret2
  refine ⟨rfl, ?_, ?_⟩
  · exact Lib.BuilderAt.put (T := 123) (e := 5) hB (unhide HK2) (bs' := bs ++ Lib.strCells s) (by simpa [Lib.strCells_length] using unhide HO2) (by decide)
  · exact ((unhide HB1).grown (unhide HG2) (by omega) (fun k hk => ((unhide HO).lt k hk).1)).setCell (p := ⟨b, 1, none⟩) hB _

end Go.Proofs.YtppcnlkhdgmaiaaGreatDoor
