/- What the program writes: bounds.write. -/
import Derived.Test.YtppcnlkhdgmaiaaGreatDoorPlS
import Derived.Deep.RegionHeld3
import Derived.Test.YtppcnlkhdgmaiaaGreatDoorRgA
import Derived.Lib.ItoaLen
namespace Go.Proofs.YtppcnlkhdgmaiaaGreatDoor
open Go.RowKit

theorem belG {w W : World} (k : Nat) (os : Array Obj) (h : Below w.heap.size w W) : Below w.heap.size w (Sort.grow (W.drewN k) os) := h.trans (Lib.below_grow _ _ h.size k os)
theorem cG {w : World} {p : Addr} {v : Value} (k : Nat) (os : Array Obj) (h : w.cell? p = some v) : (Sort.grow (w.drewN k) os).cell? p = some v := by
  have hlt : p.block < w.heap.size := by
    rcases Nat.lt_or_ge p.block w.heap.size with h1 | h1
    · exact h1
    · simp [World.cell?, Array.getElem?_eq_none h1] at h
  rw [(Lib.below_grow w.heap.size w (Nat.le_refl _) k os).cell hlt]; exact h
theorem P10.below {w W : World} (h : P10 w) (hb : Below w.heap.size w W) : P10 W := Lib.tabBelow_of_tabIs h W hb

set_option maxRecDepth 100000 in
set_option maxHeartbeats 4000000 in
theorem bw_any (lo hi : Nat) (hlo : lo ≤ 100000) (hhi : hi ≤ 100000) (w : World) (ht : P10 w) :
    Calls Tryz.prog 53 #[.agg #[.int .i64 (lo : Int), .int .i64 (hi : Int)]] w fun e w' => e = .returned (.string ⟨(Lib.itoa lo ++ [45] ++ Lib.itoa hi).toArray⟩) ∧ Below w.heap.size w w' := by
  have HT := hide ht
  clear ht
  have hcat : Hid ((⟨(Lib.itoa lo).toArray⟩ : ByteArray) ++ ⟨#[45]⟩ ++ ⟨(Lib.itoa hi).toArray⟩ = ⟨(Lib.itoa lo ++ [45] ++ Lib.itoa hi).toArray⟩) := by
    apply hide
    apply ByteArray.ext
    simp [ByteArray.data_append]
  have la : (Lib.itoa (lo : Int)).length ≤ 21 := Lib.itoa_length_le _ (by omega) (by omega)
  have lb : (Lib.itoa (hi : Int)).length ≤ 21 := Lib.itoa_length_le _ (by omega) (by omega)
  have n1 : ¬ 9223372036854775807 < (Lib.itoa (lo : Int)).length + 1 := by omega
  have n2 : ¬ 9223372036854775807 < (Lib.itoa (lo : Int)).length + 1 + (Lib.itoa (hi : Int)).length := by omega
  go_enter Tryz.func53, Tryz.ntmps53
  go_upto_region 1 with fail
  have HB := hide (blk_new w #[.int .i64 (lo : Int), .int .i64 (hi : Int)] 55)
  have HBE := hide (belA (.cells #[.int .i64 (lo : Int), .int .i64 (hi : Int)] 55) (Below.refl w.heap.size w))
  generalize hW : (w.alloc (.cells #[.int .i64 (lo : Int), .int .i64 (hi : Int)] 55)) = W at HB HBE ⊢
  clear hW
  have c0 : W.cell? ⟨w.heap.size, 0, none⟩ = some (.int .i64 (lo : Int)) := blk_cell (unhide HB) 0
  have c1 : W.cell? ⟨w.heap.size, 1, none⟩ = some (.int .i64 (hi : Int)) := blk_cell (unhide HB) 1
  go_region_held3 (fun w' => w'.cell? ⟨w.heap.size, 0, none⟩ = some (.int .i64 (lo : Int)) ∧ w'.cell? ⟨w.heap.size, 1, none⟩ = some (.int .i64 (hi : Int))) (refine ⟨?_, ?_⟩ <;> (repeat (first | assumption | apply cD | apply cG)))
    (first | (go_at_call 51; refine (Tryz.strconv_Itoa _ (by omega) (by omega) _ ?_).mono ?_; (refine (unhide HT).below ?_; (repeat (first | exact unhide HBE | apply belD | apply belG))); rintro e w2 ⟨rfl, k, os, rfl⟩))
  all_goals
    clear n1 n2 la lb c0 c1
    go_wp2_with fail
    go_returns
    refine ⟨ret_str (unhide hcat), ?_⟩
    repeat (first | exact unhide HBE | apply belD | apply belG)

end Go.Proofs.YtppcnlkhdgmaiaaGreatDoor
