/- Small parts of the document's side: End, first, joined. -/
import Derived.Test.YtppcnlkhdgmaiaaGreatDoorRgD
import Derived.Test.YtppcnlkhdgmaiaaGreatDoorPf
import Derived.BigQuiet
namespace Go.Proofs.YtppcnlkhdgmaiaaGreatDoor
open Go.RowKit

set_option maxRecDepth 100000 in
set_option maxHeartbeats 4000000 in
theorem end_any (J : Nat) (x1 x2 x4 : Int) (sg scap Ln og oo on ocap tg to' tn tcap x hi : Nat) (tx : Int) (w : World) (hsg : sg < w.heap.size) (hog : og < w.heap.size) (htg : tg < w.heap.size)
    (hon : 0 < on) (hon2 : on ≤ 1000) (hxL : x < Ln) (hxt : x < tn)
    (co : w.cell? ⟨og, oo + (on - 1), none⟩ = some (.int .i64 (x : Int))) (ct : w.cell? ⟨tg, to' + x, none⟩ = some (.int .i64 tx)) (cs : w.cell? ⟨sg, x * 10 + 3, none⟩ = some (.int .i64 (hi : Int)))
    (hJ : J ≤ 1000) (hhi : hi ≤ 1000) (htx : -1000000 ≤ tx) (htx2 : tx ≤ 1000000) :
    Calls Tryz.prog 27 #[.agg #[.int .i64 (J : Int), .int .i64 x1, .int .i64 x2, .slice (some ⟨sg, 0, none⟩) Ln scap, .int .i64 x4], .slice (some ⟨og, oo, none⟩) on ocap, .slice (some ⟨tg, to', none⟩) tn tcap] w fun e w' => e = .returned (.int .i64 (tx + J + hi)) ∧ Below w.heap.size w w' := by
  go_enter Tryz.func27, Tryz.ntmps27
  obtain ⟨m, rfl⟩ : ∃ m, on = m + 1 := ⟨on - 1, by omega⟩
  rw [show m + 1 - 1 = m by omega] at co
  go_wp2_with fail
  have hbox := blk_new w #[.int .i64 (J : Int), .int .i64 x1, .int .i64 x2, .slice (some ⟨sg, 0, none⟩) Ln scap, .int .i64 x4] 49
  have hbe : Below w.heap.size w (w.alloc (.cells #[.int .i64 (J : Int), .int .i64 x1, .int .i64 x2, .slice (some ⟨sg, 0, none⟩) Ln scap, .int .i64 x4] 49)) := (Below.refl _ _).alloc (Nat.le_refl _) _
  generalize w.alloc (.cells #[.int .i64 (J : Int), .int .i64 x1, .int .i64 x2, .slice (some ⟨sg, 0, none⟩) Ln scap, .int .i64 x4] 49) = w1 at *
  have p0 : w1.cell? ⟨w.heap.size, 0, none⟩ = some (.int .i64 (J : Int)) := blk_cell hbox 0
  have p3 : w1.cell? ⟨w.heap.size, 3, none⟩ = some (.slice (some ⟨sg, 0, none⟩) Ln scap) := blk_cell hbox 3
  have ct1 : w1.cell? ⟨tg, to' + x, none⟩ = some (.int .i64 tx) := by rw [hbe.cell (p := ⟨tg, to' + x, none⟩) htg]; exact ct
  have cs1 : w1.cell? ⟨sg, x * 10 + 3, none⟩ = some (.int .i64 (hi : Int)) := by rw [hbe.cell (p := ⟨sg, x * 10 + 3, none⟩) hsg]; exact cs
  have HBE := hide hbe
  clear hbe hbox ct cs co
  have g1 : (x : Int) < (Ln : Int) := by omega
  have g2 : (x : Int) < (tn : Int) := by omega
  go_quiet (fail)
  go_wp2_with fail
  go_returns
  exact ⟨by go_num, (unhide HBE).grown (grown_drewN _ _ none) (unhide HBE).size (by simp)⟩


set_option maxRecDepth 100000 in
set_option maxHeartbeats 4000000 in
theorem lookfirst_any (l : List Int) (lv : Value) (n : Nat) (time ni : Int) (w : World) (hl : w.ownsRow 0 3 1 lv l.length (ints l)) (hll : l.length ≤ 100000) (hn : n ≤ l.length) (hni : ni = (n : Int)) :
    Calls Tryz.prog 37 #[lv, .int .i64 ni, .int .i64 time] w fun e w' => e = .returned (.int .i64 (Hx.firstF l time n)) ∧ Below w.heap.size w w' := by
  subst hni
  obtain ⟨ao, capl, rfl⟩ := own_form hl
  have HL := hide hl
  clear hl
  go_enter Tryz.func37, Tryz.ntmps37
  go_wp2_with fail
  go_loopg [7] (l.length - n) (fun gk kk wr => ∃ k : Nat, n ≤ k ∧ k ≤ l.length ∧ gk = l.length - k ∧ kk = .int .i64 (k : Int) ∧ Hx.firstF l time k = Hx.firstF l time n ∧ wr = w)
  case atStart => exact ⟨n, Nat.le_refl _, hn, rfl, rfl, rfl, rfl⟩
  case round =>
    obtain ⟨k, hk1, hk, rfl, rfl, hfin, rfl⟩ := hrel
    rw [Hx.firstF] at hfin
    by_cases hlt : k < l.length
    · rw [dif_pos hlt] at hfin
      obtain ⟨gl, capl2, el, _, hgl⟩ := own_pos (unhide HL) (by omega)
      cases el
      obtain ⟨v, hv⟩ : ∃ v, v = l[k] := ⟨_, rfl⟩
      rw [← hv] at hfin
      have cl : wr.cell? ⟨gl, k, none⟩ = some (.int .i64 v) := by
        rw [(unhide HL).cellAt k (by omega)]
        exact ints_at _ k _ (by rw [hv]; exact List.getElem?_eq_getElem hlt)
      clear hv
      by_cases hge : time ≤ v
      · rw [if_pos hge] at hfin
        have HF := hide hfin
        clear hfin
        go_wp2_with fail
        go_returns
        exact ⟨by rw [← unhide HF]; rfl, Below.refl _ _⟩
      · rw [if_neg hge] at hfin
        have HF := hide hfin
        clear hfin
        go_wp2_with fail
        go_roundg (l.length - (k + 1))
        case measure => omega
        case rel => exact ⟨k + 1, by omega, by omega, rfl, by go_num, unhide HF, rfl⟩
    · rw [dif_neg hlt] at hfin
      have HF := hide hfin
      clear hfin
      go_wp2_with fail
      go_returns
      exact ⟨by rw [← unhide HF]; rfl, Below.refl _ _⟩

set_option maxRecDepth 100000 in
set_option maxHeartbeats 4000000 in
theorem joined_any (s t : ByteArray) (w : World) (hs1 : s.size ≤ 100000) (ht1 : t.size ≤ 100000) :
    Calls Tryz.prog 38 #[.string s, .string t] w fun e w' => e = .returned (.string (Hx.joinedF s t)) ∧ Below w.heap.size w w' := by
  go_enter Tryz.func38, Tryz.ntmps38
  cases he : s.toList.isEmpty
  · have hj : Hx.joinedF s t = s ++ ⟨#[44]⟩ ++ t := by rw [Hx.joinedF, he]; rfl
    rw [hj]
    go_wp2_with fail
    all_goals first | omega | skip
    go_returns
    exact ⟨rfl, Below.refl _ _⟩
  · have hj : Hx.joinedF s t = t := by rw [Hx.joinedF, he]; rfl
    rw [hj]
    go_wp2_with fail
    go_returns
    exact ⟨rfl, Below.refl _ _⟩
end Go.Proofs.YtppcnlkhdgmaiaaGreatDoor
