/- What the document's test of a table's step does: holds, right. -/
import Derived.Test.YtppcnlkhdgmaiaaGreatDoorRgE
namespace Go.Proofs.YtppcnlkhdgmaiaaGreatDoor
open Go.RowKit


theorem tssCells_at (l : List Hx.TStp) (j : Nat) (y : Hx.TStp) (h : l[j]? = some y) (t : Nat) (ht : t < 10) : (tssCells l)[j * 10 + t]? = (tsCells y)[t]? := by
  induction l generalizing j with
  | nil => simp at h
  | cons z r ih =>
    have e : tssCells (z :: r) = tsCells z ++ tssCells r := rfl
    rw [e]
    have hl : (tsCells z).length = 10 := rfl
    cases j with
    | zero =>
      simp at h
      subst h
      rw [Nat.zero_mul, Nat.zero_add, List.getElem?_append_left (by omega)]
    | succ j =>
      rw [List.getElem?_append_right (by omega), hl, show (j + 1) * 10 + t - 10 = j * 10 + t by omega]
      exact ih j (by simpa using h)
theorem own_ts {w : World} {base g cap : Nat} {l : List Hx.TStp} (h : w.ownsRow base 53 10 (.slice (some ⟨g, 0, none⟩) l.length cap) l.length (tssCells l)) (j : Nat) (y : Hx.TStp) (hy : l[j]? = some y) (t : Nat) (ht : t < 10) :
    w.cell? ⟨g, j * 10 + t, none⟩ = (tsCells y)[t]? := by
  have hj : j < l.length := by
    by_cases e : j < l.length
    · exact e
    · rw [List.getElem?_eq_none (by omega)] at hy; cases hy
  rw [h.cellAt (j * 10 + t) (by omega), tssCells_at l j y hy t ht]

set_option maxRecDepth 100000 in
set_option maxHeartbeats 4000000 in
theorem holds_any (J : Nat) (x1 x2 x4 : Int) (g cap : Nat) (l : List Hx.TStp) (i p : Nat) (ii pi : Int) (w : World) (ho : w.ownsRow 0 53 10 (.slice (some ⟨g, 0, none⟩) l.length cap) l.length (tssCells l)) (hl : l.length ≤ 1001) (hi : i ≤ l.length) (hg : g < w.heap.size) (hii : ii = (i : Int)) (hpi : pi = (p : Int)) :
    Calls Tryz.prog 61 #[.agg #[.int .i64 (J : Int), .int .i64 x1, .int .i64 x2, .slice (some ⟨g, 0, none⟩) l.length cap, .int .i64 x4], .int .i64 ii, .int .i64 pi] w fun e w' => e = .returned (.tuple #[.int .i64 (Hx.holdF (l.take i) p).1, .int .i64 ((Hx.holdF (l.take i) p).2 : Int)]) ∧ Below w.heap.size w w' := by
  subst hii hpi
  have HO := hide ho
  clear ho
  go_enter Tryz.func61, Tryz.ntmps61
  go_wp2_with fail
  go_loopg [8, 9, 10] i (fun gk inn n kk wr => ∃ k : Nat, k ≤ i ∧ gk = i - k ∧ kk = .int .i64 (k : Int) ∧ inn = .int .i64 (Hx.holdF (l.take k) p).1 ∧ n = .int .i64 ((Hx.holdF (l.take k) p).2 : Int) ∧ Below w.heap.size w wr ∧ wr.heap[w.heap.size]? = some (.cells #[.int .i64 (J : Int), .int .i64 x1, .int .i64 x2, .slice (some ⟨g, 0, none⟩) l.length cap, .int .i64 x4] 49 (0, 0)))
  case atStart => exact ⟨0, Nat.zero_le _, rfl, rfl, rfl, rfl, (Below.refl _ _).alloc (Nat.le_refl _) _, blk_new _ _ _⟩
  case round =>
    obtain ⟨k, hk, rfl, rfl, rfl, rfl, hbe, hbox⟩ := hrel
    have b3 : wr.cell? ⟨w.heap.size, 3, none⟩ = some (.slice (some ⟨g, 0, none⟩) l.length cap) := blk_cell hbox 3
    have HBE := hide hbe
    have HBOX := hide hbox
    clear hbe hbox
    have hle := Nat.le_trans (Hx.holdF_le (l.take k) p) (show (l.take k).length ≤ 1001 by rw [List.length_take]; omega)
    by_cases hlt : k < i
    · obtain ⟨y, hy⟩ : ∃ y, l[k]? = some y := ⟨l[k], List.getElem?_eq_getElem (by omega)⟩
      have cx : ∀ t, t < 10 → wr.cell? ⟨g, k * 10 + t, none⟩ = (tsCells y)[t]? := fun t ht => by
        rw [(unhide HBE).cell (p := ⟨g, k * 10 + t, none⟩) hg]; exact own_ts (unhide HO) k y hy t ht
      have y0 : wr.cell? ⟨g, k * 10, none⟩ = some (.int .i64 (y.pl : Int)) := cx 0 (by omega)
      have y9 : wr.cell? ⟨g, k * 10 + 9, none⟩ = some (.int .i64 y.inn) := cx 9 (by omega)
      have HT : Hid (Hx.holdF (l.take (k + 1)) p = if y.pl = p then (y.inn, (Hx.holdF (l.take k) p).2 + 1) else Hx.holdF (l.take k) p) := by
        show _ = _
        rw [List.take_add_one, hy]; exact Hx.holdF_snoc _ _ _
      clear hy cx
      have hkl : (k : Int) < (l.length : Int) := by omega
      generalize Hx.holdF (l.take k) p = h at *
      obtain ⟨h1, h2⟩ := h
      simp only at hle ⊢
      by_cases hp : y.pl = p
      · have hp' : ((y.pl : Int) == (p : Int)) = true := by simp [hp]
        have HT2 : Hid (Hx.holdF (l.take (k + 1)) p = (y.inn, h2 + 1)) := by show _ = _; rw [unhide HT, if_pos hp]
        clear hp HT
        go_wp2_with fail
        go_roundg (i - (k + 1))
        case measure => omega
        case rel => exact ⟨k + 1, by omega, rfl, by go_num, by rw [unhide HT2], by rw [unhide HT2]; go_num, unhide HBE, unhide HBOX⟩
      · have hp' : ((y.pl : Int) == (p : Int)) = false := by simp; omega
        have HT2 : Hid (Hx.holdF (l.take (k + 1)) p = (h1, h2)) := by show _ = _; rw [unhide HT, if_neg hp]
        clear hp HT
        go_wp2_with fail
        go_roundg (i - (k + 1))
        case measure => omega
        case rel => exact ⟨k + 1, by omega, rfl, by go_num, by rw [unhide HT2], by rw [unhide HT2], unhide HBE, unhide HBOX⟩
    · have hke : k = i := by omega
      subst hke
      go_wp2_with fail
      go_returns
      exact ⟨rfl, unhide HBE⟩

end Go.Proofs.YtppcnlkhdgmaiaaGreatDoor
