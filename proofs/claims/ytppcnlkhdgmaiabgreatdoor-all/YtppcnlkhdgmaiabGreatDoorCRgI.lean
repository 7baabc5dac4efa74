/- What the document's Look answers. -/
import Derived.Test.YtppcnlkhdgmaiabGreatDoorCPlA
import Derived.Deep.Onto
namespace Go.Proofs.YtppcnlkhdgmaiabGreatDoor
open Go.RowKit

set_option maxRecDepth 100000 in
set_option maxHeartbeats 4000000 in
theorem reflook_any (s : ByteArray) (w : World) (hs : s.size ≤ 1000000) :
    Calls Tryz.prog 12 #[.string s] w fun e w' => e = .returned (.tuple #[.int .i64 (Hx.lookF s).1, .int .i64 (Hx.lookF s).2]) ∧ Below w.heap.size w w' := by
  go_enter Tryz.func12, Tryz.ntmps12
  by_cases hb : 400 < s.size
  · have e : Hx.lookF s = (1, 0) := if_pos hb
    rw [e]
    have hbI : (400 : Int) < (s.size : Int) := by omega
    go_wp2_with fail
    go_returns
    exact ⟨rfl, Below.refl _ _⟩
  · have e : Hx.lookF s = if (Hx.tableF s).1.bad then (2, ((Hx.tableF s).1.pos : Int)) else Hx.wrongF (Hx.tableF s).2 0 := if_neg hb
    have HE := hide e
    have hbI : ¬ (400 : Int) < (s.size : Int) := by omega
    clear e
    go_wp2_with fail
    refine (table_any s w (by omega)).mono ?_
    rintro e w1 ⟨hbe, ⟨hbad, a3, n3, c3, rfl⟩ | ⟨hbad, v, rfl, hown, hle⟩⟩
    · have HE2 : Hid (Hx.lookF s = (2, ((Hx.tableF s).1.pos : Int))) := by show _ = _; rw [unhide HE, hbad]; rfl
      have HBE := hide hbe
      clear hbe hbad HE
      go_wp2_with fail
      go_returns
      exact ⟨by rw [unhide HE2]; rfl, (unhide HBE).alloc (unhide HBE).size _⟩
    · have e2 : Hx.lookF s = Hx.wrongF (Hx.tableF s).2 0 := by rw [unhide HE, hbad]; rfl
      obtain ⟨l, hl⟩ : ∃ l, l = (Hx.tableF s).2 := ⟨_, rfl⟩
      obtain ⟨J, hJ⟩ : ∃ J, J = (Hx.theadF s).1 := ⟨_, rfl⟩
      rw [← hl] at hown hle e2
      rw [← hJ]
      have HE2 := hide e2
      clear e2 HE hbad hl hJ
      obtain ⟨ao, cap, rfl⟩ := own_form hown
      have HBE := hide hbe
      have HOWN := hide hown
      clear hbe hown
      go_upto_region 6 with fail
      obtain ⟨wx, hwx⟩ : ∃ wx, wx = w1.alloc (.cells #[.int .i64 (J : Int), .int .i64 0, .int .i64 0, .slice ao l.length cap, .int .i64 0] 49) := ⟨_, rfl⟩
      have HBX : Hid (wx.heap[w1.heap.size]? = some (.cells #[.int .i64 (J : Int), .int .i64 0, .int .i64 0, .slice ao l.length cap, .int .i64 0] 49 (0, 0))) := by show _ = _; rw [hwx]; exact blk_new w1 _ _
      have HBE1 : Hid (Below w1.heap.size w1 wx) := by show Below _ _ _; rw [hwx]; exact (Below.refl _ _).alloc (Nat.le_refl _) _
      rw [← hwx]
      clear hwx
      go_wp2_with fail
      go_loopg [6] l.length (fun gk kk wr => ∃ k : Nat, k ≤ l.length ∧ gk = l.length - k ∧ kk = .int .i64 (k : Int) ∧ Hx.wrongF l k = Hx.wrongF l 0 ∧ wr.heap[w1.heap.size]? = some (.cells #[.int .i64 (J : Int), .int .i64 0, .int .i64 0, .slice ao l.length cap, .int .i64 0] 49 (0, 0)) ∧ Below w1.heap.size w1 wr)
      case atStart => exact ⟨0, Nat.zero_le _, rfl, rfl, rfl, unhide HBX, unhide HBE1⟩
      case round =>
        clear HBX HBE1
        obtain ⟨k, hk, rfl, rfl, hfin, hbox, hb1⟩ := hrel
        have p0 : wr.cell? ⟨w1.heap.size, 0, none⟩ = some (.int .i64 (J : Int)) := blk_cell hbox 0
        have p1 : wr.cell? ⟨w1.heap.size, 1, none⟩ = some (.int .i64 0) := blk_cell hbox 1
        have p2 : wr.cell? ⟨w1.heap.size, 2, none⟩ = some (.int .i64 0) := blk_cell hbox 2
        have p3 : wr.cell? ⟨w1.heap.size, 3, none⟩ = some (.slice ao l.length cap) := blk_cell hbox 3
        have p4 : wr.cell? ⟨w1.heap.size, 4, none⟩ = some (.int .i64 0) := blk_cell hbox 4
        have HB := hide hb1
        have HBOX := hide hbox
        clear hb1 hbox
        rw [Hx.wrongF] at hfin
        by_cases hlt : k < l.length
        · rw [if_pos hlt] at hfin
          have HFIN := hide hfin
          clear hfin
          obtain ⟨gl, capl2, el, _, hgl⟩ := own_pos (unhide HOWN) (by omega)
          cases el
          have hltI : (k : Int) < (l.length : Int) := by omega
          go_wp2_with fail
          refine (right_any J 0 0 0 gl cap l k _ wr (World.ownsRow.mono (own_below (unhide HOWN) (unhide HB)) (Nat.zero_le _)) hle hlt (by have := (unhide HB).size; omega) rfl).mono ?_
          rintro e w2 ⟨rfl, hb2⟩
          have HBOX2 := hide ((hb2.block _ (lt_of_block (unhide HBOX))).trans (unhide HBOX))
          have HB2 := hide ((unhide HB).trans (hb2.mono (unhide HB).size))
          clear hb2 HBOX HB p0 p1 p2 p3 p4
          cases hr : Hx.rightF l k
          · have HF : Hid (Hx.lookF s = (9, (k : Int))) := by
              show _ = _
              rw [unhide HE2, ← unhide HFIN, hr]; rfl
            clear hr
            go_wp2_with fail
            go_returns
            exact ⟨by rw [unhide HF]; rfl, (unhide HBE).trans ((unhide HB2).mono (unhide HBE).size)⟩
          · have HF : Hid (Hx.wrongF l (k + 1) = Hx.wrongF l 0) := by
              show _ = _
              rw [← unhide HFIN, hr]; rfl
            clear hr
            go_wp2_with fail
            go_roundg (l.length - (k + 1))
            case measure => omega
            case rel => exact ⟨k + 1, by omega, rfl, by go_num, unhide HF, unhide HBOX2, unhide HB2⟩
        · rw [if_neg hlt] at hfin
          have HF : Hid (Hx.lookF s = (0, 0)) := by show _ = _; rw [unhide HE2, ← hfin]
          clear hfin
          go_wp2_with fail
          go_returns
          exact ⟨by rw [unhide HF]; rfl, (unhide HBE).trans ((unhide HB).mono (unhide HBE).size)⟩

set_option maxHeartbeats 1000000 in
theorem reflook_all (s : ByteArray) (w : World) (hs : s.size ≤ maxLen) :
    Calls Tryz.prog 12 #[.string s] w fun e w' => e = .returned (.tuple #[.int .i64 (Hx.lookF s).1, .int .i64 (Hx.lookF s).2]) ∧ Below w.heap.size w w' := by
  unfold maxLen at hs
  by_cases h : s.size ≤ 1000000
  · exact reflook_any s w h
  · have e : Hx.lookF s = (1, 0) := if_pos (by omega)
    rw [e]
    have hbI : (400 : Int) < (s.size : Int) := by omega
    clear h
    go_enter Tryz.func12, Tryz.ntmps12
    go_wp2_with fail
    go_returns
    exact ⟨rfl, Below.refl _ _⟩
end Go.Proofs.YtppcnlkhdgmaiabGreatDoor
