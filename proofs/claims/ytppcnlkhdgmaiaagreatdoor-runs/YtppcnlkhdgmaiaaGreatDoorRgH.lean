/- Is a step of a table right: right. -/
import Derived.Test.YtppcnlkhdgmaiaaGreatDoorRgF
import Derived.Test.YtppcnlkhdgmaiaaGreatDoorRgD
namespace Go.Proofs.YtppcnlkhdgmaiaaGreatDoor
open Go.RowKit

theorem Hx.ownRight_no {l : List Hx.TStp} {i : Nat} {y : Hx.TStp} (h : y.no ≠ (Hx.holdF (l.take i) y.pl).2 ∨ y.lo = 0 ∨ y.hi < y.lo ∨ y.mx < y.mn ∨ y.out ≠ (Hx.holdF (l.take i) y.pl).1) : Hx.ownRight l i y = false := by
  unfold Hx.ownRight
  rcases h with h | h | h | h | h <;> simp [h]
theorem Hx.ownRight_yes {l : List Hx.TStp} {i : Nat} {y : Hx.TStp} (h1 : y.no = (Hx.holdF (l.take i) y.pl).2) (h2 : y.lo ≠ 0) (h3 : ¬ y.hi < y.lo) (h4 : ¬ y.mx < y.mn) (h5 : y.out = (Hx.holdF (l.take i) y.pl).1) : Hx.ownRight l i y = true := by
  unfold Hx.ownRight
  simp [← h1, h2, h3, h4, h5]

theorem range_all_succ (f : Nat → Bool) (k : Nat) : (List.range (k + 1)).all f = ((List.range k).all f && f k) := by
  rw [List.range_succ, List.all_append]; simp
theorem range_all_no (k n : Nat) (h : k < n) (f : Nat → Bool) (hf : f k = false) : (List.range n).all f = false := by
  cases hq : (List.range n).all f with
  | false => rfl
  | true =>
    rw [List.all_eq_true] at hq
    rw [hq k (List.mem_range.mpr h)] at hf
    cases hf

set_option maxRecDepth 100000 in
set_option maxHeartbeats 4000000 in
theorem right_any (J : Nat) (x1 x2 x4 : Int) (g cap : Nat) (l : List Hx.TStp) (i : Nat) (ii : Int) (w : World) (ho : w.ownsRow 0 53 10 (.slice (some ⟨g, 0, none⟩) l.length cap) l.length (tssCells l)) (hl : l.length ≤ 1001) (hi : i < l.length) (hg : g < w.heap.size) (hii : ii = (i : Int)) :
    Calls Tryz.prog 31 #[.agg #[.int .i64 (J : Int), .int .i64 x1, .int .i64 x2, .slice (some ⟨g, 0, none⟩) l.length cap, .int .i64 x4], .int .i64 ii] w fun e w' => e = .returned (.bool (Hx.rightF l i)) ∧ Below w.heap.size w w' := by
  subst hii
  obtain ⟨y, hy⟩ : ∃ y, l[i]? = some y := ⟨l[i], List.getElem?_eq_getElem (by omega)⟩
  have HR : Hid (Hx.rightF l i = (Hx.ownRight l i y && (List.range 4).all fun a => !Hx.clash l i y a)) := by
    show _ = _
    rw [Hx.rightF, hy]
  have hiI : (i : Int) < (l.length : Int) := by omega
  have HO := hide ho
  have HY := hide hy
  have cx : ∀ t, t < 10 → w.cell? ⟨g, i * 10 + t, none⟩ = (tsCells y)[t]? := fun t ht => own_ts ho i y hy t ht
  clear ho hy
  go_enter Tryz.func31, Tryz.ntmps31
  go_upto_region 1 with fail
  obtain ⟨wb, hwb⟩ : ∃ wb, wb = w.alloc (.cells #[.int .i64 (J : Int), .int .i64 x1, .int .i64 x2, .slice (some ⟨g, 0, none⟩) l.length cap, .int .i64 x4] 49) := ⟨_, rfl⟩
  have hbox : wb.heap[w.heap.size]? = some (.cells #[.int .i64 (J : Int), .int .i64 x1, .int .i64 x2, .slice (some ⟨g, 0, none⟩) l.length cap, .int .i64 x4] 49 (0, 0)) := by rw [hwb]; exact blk_new w _ _
  have hbe : Below w.heap.size w wb := by rw [hwb]; exact (Below.refl _ _).alloc (Nat.le_refl _) _
  rw [← hwb]
  clear hwb
  have cy : ∀ t, t < 10 → wb.cell? ⟨g, i * 10 + t, none⟩ = (tsCells y)[t]? := fun t ht => by
    rw [hbe.cell (p := ⟨g, i * 10 + t, none⟩) hg]; exact cx t ht
  clear cx
  obtain ⟨ypl, yno, lo, hi', yrest, mn, mx, tt, out, inn⟩ := y
  have x0 : wb.cell? ⟨g, i * 10, none⟩ = some (.int .i64 (ypl : Int)) := cy 0 (by omega)
  have x1' : wb.cell? ⟨g, i * 10 + 1, none⟩ = some (.int .i64 (yno : Int)) := cy 1 (by omega)
  have x2' : wb.cell? ⟨g, i * 10 + 2, none⟩ = some (.int .i64 (lo : Int)) := cy 2 (by omega)
  have x3' : wb.cell? ⟨g, i * 10 + 3, none⟩ = some (.int .i64 (hi' : Int)) := cy 3 (by omega)
  have x4' : wb.cell? ⟨g, i * 10 + 4, none⟩ = some (.bool yrest) := cy 4 (by omega)
  have x5' : wb.cell? ⟨g, i * 10 + 5, none⟩ = some (.int .i64 (mn : Int)) := cy 5 (by omega)
  have x6' : wb.cell? ⟨g, i * 10 + 6, none⟩ = some (.int .i64 (mx : Int)) := cy 6 (by omega)
  have x7' : wb.cell? ⟨g, i * 10 + 7, none⟩ = some (.int .i64 (tt : Int)) := cy 7 (by omega)
  have x8' : wb.cell? ⟨g, i * 10 + 8, none⟩ = some (.int .i64 out) := cy 8 (by omega)
  have x9' : wb.cell? ⟨g, i * 10 + 9, none⟩ = some (.int .i64 inn) := cy 9 (by omega)
  have p3 : wb.cell? ⟨w.heap.size, 3, none⟩ = some (.slice (some ⟨g, 0, none⟩) l.length cap) := blk_cell hbox 3
  have HBE := hide hbe
  have HBOX := hide hbox
  clear cy hbe hbox
  go_upto_region 2 with fail
  obtain ⟨wx, hwx⟩ : ∃ wx, wx = wb.alloc (.cells #[.int .i64 (ypl : Int), .int .i64 (yno : Int), .int .i64 (lo : Int), .int .i64 (hi' : Int), .bool yrest, .int .i64 (mn : Int), .int .i64 (mx : Int), .int .i64 (tt : Int), .int .i64 out, .int .i64 inn] 53) := ⟨_, rfl⟩
  have hX : wx.heap[wb.heap.size]? = some (.cells #[.int .i64 (ypl : Int), .int .i64 (yno : Int), .int .i64 (lo : Int), .int .i64 (hi' : Int), .bool yrest, .int .i64 (mn : Int), .int .i64 (mx : Int), .int .i64 (tt : Int), .int .i64 out, .int .i64 inn] 53 (0, 0)) := by rw [hwx]; exact blk_new wb _ _
  have hbe : Below w.heap.size w wx := by rw [hwx]; exact (unhide HBE).alloc (unhide HBE).size _
  have hbox : wx.heap[w.heap.size]? = some (.cells #[.int .i64 (J : Int), .int .i64 x1, .int .i64 x2, .slice (some ⟨g, 0, none⟩) l.length cap, .int .i64 x4] 49 (0, 0)) := by rw [hwx]; exact blk_kept (unhide HBOX) (grown_alloc wb _ none) (by simp)
  rw [← hwx]
  clear hwx HBE HBOX x0 x1' x2' x3' x4' x5' x6' x7' x8' x9' p3
  obtain ⟨xb, hxb⟩ : ∃ xb, xb = wb.heap.size := ⟨_, rfl⟩
  rw [← hxb] at hX ⊢
  clear hxb
  have p0 : wx.cell? ⟨w.heap.size, 0, none⟩ = some (.int .i64 (J : Int)) := blk_cell hbox 0
  have p1 : wx.cell? ⟨w.heap.size, 1, none⟩ = some (.int .i64 x1) := blk_cell hbox 1
  have p2 : wx.cell? ⟨w.heap.size, 2, none⟩ = some (.int .i64 x2) := blk_cell hbox 2
  have p3 : wx.cell? ⟨w.heap.size, 3, none⟩ = some (.slice (some ⟨g, 0, none⟩) l.length cap) := blk_cell hbox 3
  have p4 : wx.cell? ⟨w.heap.size, 4, none⟩ = some (.int .i64 x4) := blk_cell hbox 4
  have z0 : wx.cell? ⟨xb, 0, none⟩ = some (.int .i64 (ypl : Int)) := blk_cell hX 0
  have HX := hide hX
  have HBE := hide hbe
  have HBOX := hide hbox
  clear hX hbe hbox
  go_wp2_with fail
  refine (holds_any J x1 x2 x4 g cap l i ypl _ _ wx (own_below (unhide HO) (unhide HBE)) hl (by omega) (by have := (unhide HBE).size; omega) rfl rfl).mono ?_
  rintro e w1 ⟨rfl, hb1⟩
  have hX : w1.heap[xb]? = some (.cells #[.int .i64 (ypl : Int), .int .i64 (yno : Int), .int .i64 (lo : Int), .int .i64 (hi' : Int), .bool yrest, .int .i64 (mn : Int), .int .i64 (mx : Int), .int .i64 (tt : Int), .int .i64 out, .int .i64 inn] 53 (0, 0)) := (hb1.block _ (lt_of_block (unhide HX))).trans (unhide HX)
  have hbox : w1.heap[w.heap.size]? = some (.cells #[.int .i64 (J : Int), .int .i64 x1, .int .i64 x2, .slice (some ⟨g, 0, none⟩) l.length cap, .int .i64 x4] 49 (0, 0)) := (hb1.block _ (lt_of_block (unhide HBOX))).trans (unhide HBOX)
  have hbe : Below w.heap.size w w1 := (unhide HBE).trans (hb1.mono (unhide HBE).size)
  clear HX HBOX HBE hb1 p0 p1 p2 p3 p4 z0
  have z1 : w1.cell? ⟨xb, 1, none⟩ = some (.int .i64 (yno : Int)) := blk_cell hX 1
  have z2 : w1.cell? ⟨xb, 2, none⟩ = some (.int .i64 (lo : Int)) := blk_cell hX 2
  have z3 : w1.cell? ⟨xb, 3, none⟩ = some (.int .i64 (hi' : Int)) := blk_cell hX 3
  have z5 : w1.cell? ⟨xb, 5, none⟩ = some (.int .i64 (mn : Int)) := blk_cell hX 5
  have z6 : w1.cell? ⟨xb, 6, none⟩ = some (.int .i64 (mx : Int)) := blk_cell hX 6
  have z8 : w1.cell? ⟨xb, 8, none⟩ = some (.int .i64 out) := blk_cell hX 8
  have HX := hide hX
  have HBE := hide hbe
  have HBOX := hide hbox
  clear hX hbe hbox wx
  obtain ⟨hh, hhe⟩ : ∃ hh, hh = Hx.holdF (l.take i) ypl := ⟨_, rfl⟩
  obtain ⟨h1, h2⟩ := hh
  have e1 : (Hx.holdF (l.take i) ypl).1 = h1 := by rw [← hhe]
  have e2 : (Hx.holdF (l.take i) ypl).2 = h2 := by rw [← hhe]
  clear hhe
  rw [e1, e2]
  by_cases q1 : yno = h2
  case neg =>
    have b1 : ((yno : Int) != (h2 : Int)) = true := by simp; omega
    have HQ := hide (show yno ≠ (Hx.holdF (l.take i) ypl).2 by rw [e2]; exact q1)
    clear q1 e1 e2
    have HF : Hid (Hx.rightF l i = false) := by
      show _ = _
      rw [unhide HR, Hx.ownRight_no (Or.inl (unhide HQ))]; rfl
    clear HR
    go_wp2_with fail
    go_returns
    exact ⟨by rw [unhide HF]; rfl, unhide HBE⟩
  have b1 : ((yno : Int) != (h2 : Int)) = false := by simp; omega
  have HQ1 := hide (show yno = (Hx.holdF (l.take i) ypl).2 by rw [e2]; exact q1)
  clear q1 e2
  by_cases q2 : lo = 0
  case pos =>
    have b2 : ((lo : Int) == 0) = true := by simp; omega
    have HQ := hide q2
    clear q2 e1
    have HF : Hid (Hx.rightF l i = false) := by
      show _ = _
      rw [unhide HR, Hx.ownRight_no (Or.inr (Or.inl (unhide HQ)))]; rfl
    clear HR
    go_wp2_with fail
    go_returns
    exact ⟨by rw [unhide HF]; rfl, unhide HBE⟩
  have b2 : ((lo : Int) == 0) = false := by simp; omega
  have HQ2 := hide q2
  clear q2
  by_cases q3 : hi' < lo
  case pos =>
    have HQ := hide q3
    clear e1
    have HF : Hid (Hx.rightF l i = false) := by
      show _ = _
      rw [unhide HR, Hx.ownRight_no (Or.inr (Or.inr (Or.inl (unhide HQ))))]; rfl
    clear HR
    go_wp2_with fail
    go_returns
    exact ⟨by rw [unhide HF]; rfl, unhide HBE⟩
  have HQ3 := hide q3
  by_cases q4 : mx < mn
  case pos =>
    have HQ := hide q4
    clear e1
    have HF : Hid (Hx.rightF l i = false) := by
      show _ = _
      rw [unhide HR, Hx.ownRight_no (Or.inr (Or.inr (Or.inr (Or.inl (unhide HQ)))))]; rfl
    clear HR
    go_wp2_with fail
    go_returns
    exact ⟨by rw [unhide HF]; rfl, unhide HBE⟩
  have HQ4 := hide q4
  by_cases q5 : out = h1
  case neg =>
    have b5 : (out != h1) = true := by simp; omega
    have HQ := hide (show out ≠ (Hx.holdF (l.take i) ypl).1 by rw [e1]; exact q5)
    clear e1 q5
    have HF : Hid (Hx.rightF l i = false) := by
      show _ = _
      rw [unhide HR, Hx.ownRight_no (Or.inr (Or.inr (Or.inr (Or.inr (unhide HQ)))))]; rfl
    clear HR
    go_wp2_with fail
    go_returns
    exact ⟨by rw [unhide HF]; rfl, unhide HBE⟩
  have b5 : (out != h1) = false := by simp; omega
  have HR2 : Hid (Hx.rightF l i = (List.range 4).all fun a => !Hx.clash l i ⟨ypl, yno, lo, hi', yrest, mn, mx, tt, out, inn⟩ a) := by
    show _ = _
    rw [unhide HR, Hx.ownRight_yes (unhide HQ1) (unhide HQ2) (unhide HQ3) (unhide HQ4) (by rw [e1]; exact q5)]; rfl
  clear HR HQ1 HQ2 HQ3 HQ4 e1 q5
  go_wp2_with fail
  clear b1 b2 b5 q3 q4 z1 z2 z3 z5 z6 z8
  go_loopg [8] 4 (fun gk kk wr => ∃ k : Nat, k ≤ 4 ∧ gk = 4 - k ∧ kk = .int .i64 (k : Int) ∧ ((List.range k).all fun a => !Hx.clash l i ⟨ypl, yno, lo, hi', yrest, mn, mx, tt, out, inn⟩ a) = true ∧ wr.heap[xb]? = some (.cells #[.int .i64 (ypl : Int), .int .i64 (yno : Int), .int .i64 (lo : Int), .int .i64 (hi' : Int), .bool yrest, .int .i64 (mn : Int), .int .i64 (mx : Int), .int .i64 (tt : Int), .int .i64 out, .int .i64 inn] 53 (0, 0)) ∧ wr.heap[w.heap.size]? = some (.cells #[.int .i64 (J : Int), .int .i64 x1, .int .i64 x2, .slice (some ⟨g, 0, none⟩) l.length cap, .int .i64 x4] 49 (0, 0)) ∧ Below w.heap.size w wr)
  case atStart => exact ⟨0, by omega, rfl, rfl, rfl, unhide HX, unhide HBOX, unhide HBE⟩
  case round =>
    clear HX HBOX HBE
    obtain ⟨k, hk, rfl, rfl, hal, hX, hbox, hbe⟩ := hrel
    have HAL := hide hal
    have p0 : wr.cell? ⟨w.heap.size, 0, none⟩ = some (.int .i64 (J : Int)) := blk_cell hbox 0
    have p1 : wr.cell? ⟨w.heap.size, 1, none⟩ = some (.int .i64 x1) := blk_cell hbox 1
    have p2 : wr.cell? ⟨w.heap.size, 2, none⟩ = some (.int .i64 x2) := blk_cell hbox 2
    have p3 : wr.cell? ⟨w.heap.size, 3, none⟩ = some (.slice (some ⟨g, 0, none⟩) l.length cap) := blk_cell hbox 3
    have p4 : wr.cell? ⟨w.heap.size, 4, none⟩ = some (.int .i64 x4) := blk_cell hbox 4
    have HX0 := hide hX
    have HBE0 := hide hbe
    have HBOX0 := hide hbox
    clear hX hbe hbox hal
    by_cases hlt : k < 4
    · have hltI : (k : Int) < 4 := by omega
      go_wp2_with fail
      refine (holds_any J x1 x2 x4 g cap l i k _ _ wr (own_below (unhide HO) (unhide HBE0)) hl (by omega) (by have := (unhide HBE0).size; omega) rfl rfl).mono ?_
      rintro e w3 ⟨rfl, hb1⟩
      have hX : w3.heap[xb]? = some (.cells #[.int .i64 (ypl : Int), .int .i64 (yno : Int), .int .i64 (lo : Int), .int .i64 (hi' : Int), .bool yrest, .int .i64 (mn : Int), .int .i64 (mx : Int), .int .i64 (tt : Int), .int .i64 out, .int .i64 inn] 53 (0, 0)) := (hb1.block _ (lt_of_block (unhide HX0))).trans (unhide HX0)
      have hbox : w3.heap[w.heap.size]? = some (.cells #[.int .i64 (J : Int), .int .i64 x1, .int .i64 x2, .slice (some ⟨g, 0, none⟩) l.length cap, .int .i64 x4] 49 (0, 0)) := (hb1.block _ (lt_of_block (unhide HBOX0))).trans (unhide HBOX0)
      have hbe : Below w.heap.size w w3 := (unhide HBE0).trans (hb1.mono (unhide HBE0).size)
      clear HX0 HBOX0 HBE0 hb1 p0 p1 p2 p3 p4
      have z0 : w3.cell? ⟨xb, 0, none⟩ = some (.int .i64 (ypl : Int)) := blk_cell hX 0
      have z9 : w3.cell? ⟨xb, 9, none⟩ = some (.int .i64 inn) := blk_cell hX 9
      have HX := hide hX
      have HBE := hide hbe
      have HBOX := hide hbox
      clear hX hbe hbox
      obtain ⟨hh, hhe⟩ : ∃ hh, hh = Hx.holdF (l.take i) k := ⟨_, rfl⟩
      obtain ⟨k1, k2⟩ := hh
      have HE1 : Hid ((Hx.holdF (l.take i) k).1 = k1) := by show _ = _; rw [← hhe]
      have HE2 : Hid ((Hx.holdF (l.take i) k).2 = k2) := by show _ = _; rw [← hhe]
      clear hhe
      rw [unhide HE1, unhide HE2]
      by_cases r1 : k = ypl
      · have c1 : ((k : Int) != (ypl : Int)) = false := by simp; omega
        have HR1 := hide r1
        clear r1
        have HC : Hid (Hx.clash l i ⟨ypl, yno, lo, hi', yrest, mn, mx, tt, out, inn⟩ k = false) := by
          show _ = _
          unfold Hx.clash
          simp [unhide HR1]
        go_wp2_with fail
        go_roundg (4 - (k + 1))
        case measure => omega
        case rel => exact ⟨k + 1, by omega, rfl, by go_num, by rw [range_all_succ, unhide HAL, unhide HC]; rfl, unhide HX, unhide HBOX, unhide HBE⟩
      · have c1 : ((k : Int) != (ypl : Int)) = true := by simp; omega
        have HR1 := hide r1
        clear r1
        by_cases r2 : (0 : Int) ≤ inn
        · by_cases r3 : k1 = inn
          · have c3 : (k1 == inn) = true := by simp [r3]
            have HC : Hid (Hx.clash l i ⟨ypl, yno, lo, hi', yrest, mn, mx, tt, out, inn⟩ k = true) := by
              show _ = _
              unfold Hx.clash
              simp [unhide HR1, unhide HE1, r2, r3]
            have HF : Hid (Hx.rightF l i = false) := by
              show _ = _
              rw [unhide HR2]
              exact range_all_no k 4 hlt _ (by rw [unhide HC]; rfl)
            clear r3
            go_wp2_with fail
            go_returns
            exact ⟨by rw [unhide HF]; rfl, unhide HBE⟩
          · have c3 : (k1 == inn) = false := by simp [r3]
            have HR3 := hide r3
            clear r3
            have HC : Hid (Hx.clash l i ⟨ypl, yno, lo, hi', yrest, mn, mx, tt, out, inn⟩ k = false) := by
              show _ = _
              unfold Hx.clash
              simp [unhide HE1, unhide HR3]
            go_wp2_with fail
            go_roundg (4 - (k + 1))
            case measure => omega
            case rel => exact ⟨k + 1, by omega, rfl, by go_num, by rw [range_all_succ, unhide HAL, unhide HC]; rfl, unhide HX, unhide HBOX, unhide HBE⟩
        · have r2' : inn < 0 := by omega
          clear r2
          have HC : Hid (Hx.clash l i ⟨ypl, yno, lo, hi', yrest, mn, mx, tt, out, inn⟩ k = false) := by
            show _ = _
            unfold Hx.clash
            simp; omega
          go_wp2_with fail
          go_roundg (4 - (k + 1))
          case measure => omega
          case rel => exact ⟨k + 1, by omega, rfl, by go_num, by rw [range_all_succ, unhide HAL, unhide HC]; rfl, unhide HX, unhide HBOX, unhide HBE⟩
    · have hke : k = 4 := by omega
      subst hke
      have HF : Hid (Hx.rightF l i = true) := by
        show _ = _
        rw [unhide HR2]; exact unhide HAL
      go_wp2_with fail
      go_returns
      exact ⟨by rw [unhide HF]; rfl, unhide HBE0⟩
end Go.Proofs.YtppcnlkhdgmaiaaGreatDoor
