/- What firstNotRight answers: the first step of a table that is not right. -/
import Derived.Test.YtppcnlkhdgmaiaaDoorCRtC
import Derived.Test.YtppcnlkhdgmaiaaDoorCPs
import Derived.Deep.RegionHeld3
namespace Go.Proofs.YtppcnlkhdgmaiaaDoor
open Go.RowKit

theorem ints_set (zs : List Int) (p : Nat) (v : Int) : (ints zs).toArray.setIfInBounds p (.int .i64 v) = (ints (zs.set p v)).toArray := by simp [ints, List.map_set]
theorem ints_cell {w : World} {g : Nat} {zs : List Int} (h : w.heap[g]? = some (.cells (ints zs).toArray 3 (0, 0))) {j : Nat} (hj : j < zs.length) : w.cell? ⟨g, j, none⟩ = some (.int .i64 (zs.getD j 0)) := by
  rw [blk_cell h j]
  simp [ints, hj]
theorem own_pt {w : World} {base g n cap : Nat} {l : List Hx.TStp} (h : w.ownsRow base 153 11 (.slice (some ⟨g, 0, none⟩) n cap) n (ptsCells l)) (hn : n = l.length) (j : Nat) (x : Hx.TStp) (hx : l[j]? = some x) (t : Nat) (ht : t < 11) :
    w.cell? ⟨g, j * 11 + t, none⟩ = (ptCells x)[t]? := by
  have hj : j < l.length := (List.getElem?_eq_some_iff.1 hx).1
  rw [h.cellAt (j * 11 + t) (by omega), ptsCells_at l j x hx t ht]
theorem cN {w : World} {p : Addr} {v : Value} (n : Nat) (h : w.cell? p = some v) : (w.drewN n).cell? p = some v := h
theorem bN' {w : World} {k : Nat} {x : Obj} (n : Nat) (h : w.heap[k]? = some x) : (w.drewN n).heap[k]? = some x := h
theorem belN {m : Nat} {w W : World} (n : Nat) (h : Below m w W) : Below m w (W.drewN n) := below_drewN h n

set_option maxRecDepth 100000 in
set_option maxHeartbeats 4000000 in
theorem notright_any (l : List Hx.TStp) (v : Value) (w : World) (ho : w.ownsRow 0 153 11 v l.length (ptsCells l)) (hl : l.length ≤ 401) (hok : ∀ y ∈ l, Hx.TOk y) :
    Calls Tryd.prog 59 #[v] w fun e w' => e = .returned (.tuple #[.int .i64 (Hx.wrongF l 0).2, .bool ((Hx.wrongF l 0).1 != 0)]) ∧ Below w.heap.size w w' := by
  obtain ⟨i3, hi3, hz30, hz31, hz32⟩ := info_parts Tryd.info3
  have HI3 := hide hi3
  have HZ30 := hide hz30
  have HZ31 := hide hz31
  have HZ32 := hide hz32
  obtain ⟨ao, cap, rfl⟩ := own_form ho
  have HO := hide ho
  have HOK := hide hok
  clear hi3 hz30 hz31 hz32 ho hok
  go_enter Tryd.func59, Tryd.ntmps59
  go_upto_region 2 with (at_make; refine wpList_make_full _ rfl _ _ 49 rfl w.heap.size 3 i3 (.int .i64 0) 1 Tryd.underlying49 (unhide HI3) (unhide HZ30) (unhide HZ31) _ _ _ _ 4 rfl rfl (by simp) (by simp) (by rw [unhide HZ32]; omega) (by unfold maxLen; omega) (Nat.le_refl _) ?_; intro w2 hown2 hgrow2)
  have HG : Hid (w2.heap[w.heap.size]? = some (.cells (ints (Hx.doneL [])).toArray 3 (0, 0))) := by
    have := own_full hown2
    rw [made_zero] at this
    rw [Hx.doneL_nil]; exact this
  have HB2 := hide ((Below.refl w.heap.size w).grown hgrow2 (Nat.le_refl _) (fun k e => by cases e))
  clear hown2 hgrow2
  have hs2 := (unhide HB2).size
  have HG1 : Hid ((w2.alloc (.cells #[.int .i64 (-1)] 3)).heap[w.heap.size]? = some (.cells (ints (Hx.doneL [])).toArray 3 (0, 0))) := bA _ (unhide HG)
  have HB3 : Hid (Below w.heap.size w (w2.alloc (.cells #[.int .i64 (-1)] 3))) := (unhide HB2).alloc hs2 _
  have HC1 : Hid ((w2.alloc (.cells #[.int .i64 (-1)] 3)).cell? ⟨w2.heap.size, 0, none⟩ = some (.int .i64 (-1))) := blk_cell (blk_new w2 #[.int .i64 (-1)] 3) 0
  have hsz : (w2.alloc (.cells #[.int .i64 (-1)] 3)).heap.size = w2.heap.size + 1 := by simp
  have HR := hide (repeat_any w2.heap.size 4 (w2.alloc (.cells #[.int .i64 (-1)] 3)) (unhide HC1) (by omega) (by omega) (by omega))
  go_upto_region 3 with (go_at_call 54; refine (unhide HR).mono ?_; rintro e w3 ⟨rfl, hs3, hb3⟩)
  have HG3 := hide ((hb3.block _ (lt_of_block (unhide HG1))).trans (unhide HG1))
  have HB4 := hide ((unhide HB3).trans (hb3.mono (unhide HB3).size))
  have HS3 : Hid (w3.heap[w2.heap.size + 1]? = some (.cells (ints (Hx.staysL [])).toArray 3 (0, 0))) := by
    rw [Hx.staysL_nil, ← hsz]; exact hs3
  obtain ⟨gs, hgs⟩ : ∃ gs, gs = w2.heap.size + 1 := ⟨_, rfl⟩
  have hgw : w.heap.size < gs := by omega
  rw [← hgs] at HS3 ⊢
  clear hs3 hb3 HR HC1 HB3 HG1 HB2 HG hsz hs2 hgs
  go_wp2_with fail
  go_loopg [13] l.length (fun gk kk wr => ∃ k : Nat, k ≤ l.length ∧ gk = l.length - k ∧ kk = .int .i64 (k : Int) ∧ Hx.wrongF l k = Hx.wrongF l 0 ∧ wr.heap[w.heap.size]? = some (.cells (ints (Hx.doneL (l.take k))).toArray 3 (0, 0)) ∧ wr.heap[gs]? = some (.cells (ints (Hx.staysL (l.take k))).toArray 3 (0, 0)) ∧ Below w.heap.size w wr)
  case atStart => exact ⟨0, Nat.zero_le _, rfl, rfl, rfl, unhide HG3, unhide HS3, unhide HB4⟩
  case round =>
    clear HG3 HS3 HB4
    obtain ⟨k, hk, rfl, rfl, hfin, hgd, hgs, hbe⟩ := hrel
    have HGD := hide hgd
    have HGS := hide hgs
    have HBE := hide hbe
    clear hgd hgs hbe
    by_cases hlt : k < l.length
    · rw [Hx.wrongF_step hlt] at hfin
      have HFIN := hide hfin
      clear hfin
      obtain ⟨gl, capl2, el, _, hgl⟩ := own_pos (unhide HO) (by omega)
      cases el
      obtain ⟨y, hy⟩ : ∃ y, l[k]? = some y := ⟨l[k], List.getElem?_eq_getElem hlt⟩
      have hyok := unhide HOK y (List.mem_of_getElem? hy)
      have HRI := hide (Hx.right_is hy hyok)
      have HYOK := hide hyok
      have HY := hide hy
      have cx : ∀ t, t < 11 → wr.cell? ⟨gl, k * 11 + t, none⟩ = (ptCells y)[t]? := fun t ht => by
        rw [(unhide HBE).cell (p := ⟨gl, k * 11 + t, none⟩) hgl]; exact own_pt (unhide HO) rfl k y hy t ht
      have x0 : wr.cell? ⟨gl, k * 11, none⟩ = some (.int .i64 (y.lo : Int)) := cx 0 (by omega)
      have x1 : wr.cell? ⟨gl, k * 11 + 1, none⟩ = some (.int .i64 (y.hi : Int)) := cx 1 (by omega)
      have x2 : wr.cell? ⟨gl, k * 11 + 2, none⟩ = some (.bool y.rest) := cx 2 (by omega)
      have x3 : wr.cell? ⟨gl, k * 11 + 3, none⟩ = some (.int .i64 (y.mn : Int)) := cx 3 (by omega)
      have x4 : wr.cell? ⟨gl, k * 11 + 4, none⟩ = some (.int .i64 (y.mx : Int)) := cx 4 (by omega)
      have x5 : wr.cell? ⟨gl, k * 11 + 5, none⟩ = some (.int .i64 (y.pl : Int)) := cx 5 (by omega)
      have x6 : wr.cell? ⟨gl, k * 11 + 6, none⟩ = some (.int .i64 (y.no : Int)) := cx 6 (by omega)
      have x7 : wr.cell? ⟨gl, k * 11 + 7, none⟩ = some (.bool (decide (0 ≤ y.inn))) := cx 7 (by omega)
      have x8 : wr.cell? ⟨gl, k * 11 + 8, none⟩ = some (.int .i64 (y.t : Int)) := cx 8 (by omega)
      have x9 : wr.cell? ⟨gl, k * 11 + 9, none⟩ = some (.int .i64 y.out) := cx 9 (by omega)
      have x10 : wr.cell? ⟨gl, k * 11 + 10, none⟩ = some (.int .i64 y.inn) := cx 10 (by omega)
      have hltI : (k : Int) < (l.length : Int) := by omega
      clear cx hy hyok
      go_upto_region 6 with fail
      have HX := hide (bN #[.int .i64 (y.lo : Int), .int .i64 (y.hi : Int), .bool y.rest, .int .i64 (y.mn : Int), .int .i64 (y.mx : Int), .int .i64 (y.pl : Int), .int .i64 (y.no : Int), .bool (decide (0 ≤ y.inn)), .int .i64 (y.t : Int), .int .i64 y.out, .int .i64 y.inn] 153 (w := wr) rfl)
      have HGD1 := hide (bA (.cells #[.int .i64 (y.lo : Int), .int .i64 (y.hi : Int), .bool y.rest, .int .i64 (y.mn : Int), .int .i64 (y.mx : Int), .int .i64 (y.pl : Int), .int .i64 (y.no : Int), .bool (decide (0 ≤ y.inn)), .int .i64 (y.t : Int), .int .i64 y.out, .int .i64 y.inn] 153) (unhide HGD))
      have HGS1 := hide (bA (.cells #[.int .i64 (y.lo : Int), .int .i64 (y.hi : Int), .bool y.rest, .int .i64 (y.mn : Int), .int .i64 (y.mx : Int), .int .i64 (y.pl : Int), .int .i64 (y.no : Int), .bool (decide (0 ≤ y.inn)), .int .i64 (y.t : Int), .int .i64 y.out, .int .i64 y.inn] 153) (unhide HGS))
      have HBE1 := hide (belA (.cells #[.int .i64 (y.lo : Int), .int .i64 (y.hi : Int), .bool y.rest, .int .i64 (y.mn : Int), .int .i64 (y.mx : Int), .int .i64 (y.pl : Int), .int .i64 (y.no : Int), .bool (decide (0 ≤ y.inn)), .int .i64 (y.t : Int), .int .i64 y.out, .int .i64 y.inn] 153) (unhide HBE))
      have hsz := (unhide HBE).size
      obtain ⟨tb, htb⟩ : ∃ tb, tb = wr.heap.size := ⟨_, rfl⟩
      have hgt : gs < tb := by rw [htb]; exact lt_of_block (unhide HGS)
      have hwt : w.heap.size < tb := by omega
      rw [← htb] at HX ⊢
      clear HGD HGS HBE x0 x1 x2 x3 x4 x5 x6 x7 x8 x9 x10 htb hsz
      generalize wr.alloc (.cells #[.int .i64 (y.lo : Int), .int .i64 (y.hi : Int), .bool y.rest, .int .i64 (y.mn : Int), .int .i64 (y.mx : Int), .int .i64 (y.pl : Int), .int .i64 (y.no : Int), .bool (decide (0 ≤ y.inn)), .int .i64 (y.t : Int), .int .i64 y.out, .int .i64 y.inn] 153) = wx at *
      have z0 : wx.cell? ⟨tb, 0, none⟩ = some (.int .i64 (y.lo : Int)) := blk_cell (unhide HX) 0
      have z1 : wx.cell? ⟨tb, 1, none⟩ = some (.int .i64 (y.hi : Int)) := blk_cell (unhide HX) 1
      have z2 : wx.cell? ⟨tb, 2, none⟩ = some (.bool y.rest) := blk_cell (unhide HX) 2
      have z3 : wx.cell? ⟨tb, 3, none⟩ = some (.int .i64 (y.mn : Int)) := blk_cell (unhide HX) 3
      have z4 : wx.cell? ⟨tb, 4, none⟩ = some (.int .i64 (y.mx : Int)) := blk_cell (unhide HX) 4
      have z5 : wx.cell? ⟨tb, 5, none⟩ = some (.int .i64 (y.pl : Int)) := blk_cell (unhide HX) 5
      have z6 : wx.cell? ⟨tb, 6, none⟩ = some (.int .i64 (y.no : Int)) := blk_cell (unhide HX) 6
      have z7 : wx.cell? ⟨tb, 7, none⟩ = some (.bool (decide (0 ≤ y.inn))) := blk_cell (unhide HX) 7
      have z8 : wx.cell? ⟨tb, 8, none⟩ = some (.int .i64 (y.t : Int)) := blk_cell (unhide HX) 8
      have z9 : wx.cell? ⟨tb, 9, none⟩ = some (.int .i64 y.out) := blk_cell (unhide HX) 9
      have z10 : wx.cell? ⟨tb, 10, none⟩ = some (.int .i64 y.inn) := blk_cell (unhide HX) 10
      have hpl := (unhide HYOK).pl
      obtain ⟨hd, hhd⟩ : ∃ hd, hd = (Hx.holdF (l.take k) y.pl).2 := ⟨_, rfl⟩
      have hd0 : wx.cell? ⟨w.heap.size, y.pl, none⟩ = some (.int .i64 (hd : Int)) := by
        rw [ints_cell (unhide HGD1) (by rw [Hx.doneL_len]; exact hpl), List.getD_eq_getElem?_getD, Hx.doneL_get _ hpl, hhd]; rfl
      have hplI : (y.pl : Int) < 4 := by omega
      rw [← hhd] at HRI
      have hdl : hd ≤ l.length := by rw [hhd]; exact Nat.le_trans (Hx.holdF_le _ _) (by simp; omega)
      have HHD := hide hhd
      clear hhd
      go_cut [39] (fun s39 wc => s39 = .bool (!Hx.rightF l k) ∧ wc.heap[tb]? = some (.cells #[.int .i64 (y.lo : Int), .int .i64 (y.hi : Int), .bool y.rest, .int .i64 (y.mn : Int), .int .i64 (y.mx : Int), .int .i64 (y.pl : Int), .int .i64 (y.no : Int), .bool (decide (0 ≤ y.inn)), .int .i64 (y.t : Int), .int .i64 y.out, .int .i64 y.inn] 153 (0, 0)) ∧ wc.heap[w.heap.size]? = some (.cells (ints (Hx.doneL (l.take k))).toArray 3 (0, 0)) ∧ wc.heap[gs]? = some (.cells (ints (Hx.staysL (l.take k))).toArray 3 (0, 0)) ∧ Below w.heap.size w wc)
      case first =>
        by_cases hno : y.no = hd
        · have hno' : ((y.no : Int) != (hd : Int)) = false := by simp [hno]
          obtain ⟨bw, hbw⟩ : ∃ bw, Hx.wrongB 10 ⟨y.lo, y.hi, y.rest, y.mn, y.mx⟩ = bw := ⟨_, rfl⟩
          obtain ⟨bf, hbf⟩ : ∃ bf, Hx.tfitF (Hx.staysL (l.take k)) y = bf := ⟨_, rfl⟩
          have e0 : ((y.no : Int) == (hd : Int)) = true := by simp [hno]
          rw [e0, hbw, hbf, Bool.true_and] at HRI
          have HBW := hide hbw
          have HBF := hide hbf
          have HCS : Hid (∀ j, j < 4 → wx.cell? ⟨gs, j, none⟩ = some (.int .i64 ((Hx.staysL (l.take k)).getD j 0))) := fun j hj => ints_cell (unhide HGS1) (by rw [Hx.staysL_len]; exact hj)
          clear hno e0 hbw hbf
          cases bw
          · cases bf
            all_goals
              go_region_held3 (fun w' => w'.cell? ⟨w.heap.size, y.pl, none⟩ = some (.int .i64 (hd : Int)) ∧ w'.cell? ⟨tb, 0, none⟩ = some (.int .i64 (y.lo : Int)) ∧ w'.cell? ⟨tb, 1, none⟩ = some (.int .i64 (y.hi : Int)) ∧ w'.cell? ⟨tb, 2, none⟩ = some (.bool y.rest) ∧ w'.cell? ⟨tb, 3, none⟩ = some (.int .i64 (y.mn : Int)) ∧ w'.cell? ⟨tb, 4, none⟩ = some (.int .i64 (y.mx : Int)) ∧ w'.cell? ⟨tb, 5, none⟩ = some (.int .i64 (y.pl : Int)) ∧ w'.cell? ⟨tb, 6, none⟩ = some (.int .i64 (y.no : Int)) ∧ w'.cell? ⟨tb, 7, none⟩ = some (.bool (decide (0 ≤ y.inn))) ∧ w'.cell? ⟨tb, 8, none⟩ = some (.int .i64 (y.t : Int)) ∧ w'.cell? ⟨tb, 9, none⟩ = some (.int .i64 y.out) ∧ w'.cell? ⟨tb, 10, none⟩ = some (.int .i64 y.inn)) (refine ⟨?_, ?_, ?_, ?_, ?_, ?_, ?_, ?_, ?_, ?_, ?_, ?_⟩ <;> (repeat (first | assumption | apply cD | apply cN | apply cA)))
                (first | (go_at_call 67; refine (wrong_exact y _ _ (unhide HBW)).mono ?_; rintro e w2 ⟨rfl, rfl⟩) | (go_at_call 79; refine (fits_exact y gs 4 (Hx.staysL (l.take k)) _ (Hx.staysL_len _) hpl _ (unhide HBF) (fun j hj => ?_)).mono ?_; (have := unhide HCS j hj; (repeat (first | exact this | apply cD | apply cN | apply cA))); rintro e w2 ⟨rfl, n2, rfl⟩))
              all_goals
                go_wp2_with fail
                go_meet
                case rel =>
                  refine ⟨?_, ?_, ?_, ?_, ?_⟩
                  · rw [unhide HRI]; rfl
                  · (repeat (first | exact unhide HX | apply bD | apply bN' | apply bA))
                  · (repeat (first | exact unhide HGD1 | apply bD | apply bN' | apply bA))
                  · (repeat (first | exact unhide HGS1 | apply bD | apply bN' | apply bA))
                  · (repeat (first | exact unhide HBE1 | apply belD | apply belN | apply belA))
          · first | go_region_with (go_at_call 67; refine (wrong_exact y _ _ (unhide HBW)).mono ?_; rintro e w2 ⟨rfl, rfl⟩) | fail
            all_goals
              go_wp2_with fail
              go_meet
              case rel =>
                refine ⟨?_, ?_, ?_, ?_, ?_⟩
                · rw [unhide HRI]; rfl
                · (repeat (first | exact unhide HX | apply bD | apply bN' | apply bA))
                · (repeat (first | exact unhide HGD1 | apply bD | apply bN' | apply bA))
                · (repeat (first | exact unhide HGS1 | apply bD | apply bN' | apply bA))
                · (repeat (first | exact unhide HBE1 | apply belD | apply belN | apply belA))
        · have hno' : ((y.no : Int) != (hd : Int)) = true := by simp; omega
          have e0 : ((y.no : Int) == (hd : Int)) = false := by simp; omega
          rw [e0, Bool.false_and, Bool.false_and] at HRI
          clear hno e0
          go_quiet (fail)
          go_wp2_with fail
          go_meet
          case rel =>
            refine ⟨?_, ?_, ?_, ?_, ?_⟩
            · rw [unhide HRI]; rfl
            · (repeat (first | exact unhide HX | apply bD | apply bN' | apply bA))
            · (repeat (first | exact unhide HGD1 | apply bD | apply bN' | apply bA))
            · (repeat (first | exact unhide HGS1 | apply bD | apply bN' | apply bA))
            · (repeat (first | exact unhide HBE1 | apply belD | apply belN | apply belA))
      case rest =>
        obtain ⟨rfl, hx, hgd, hgs, hbe⟩ := hcut
        clear HX HGD1 HGS1 HBE1 HRI z0 z1 z2 z3 z4 z5 z6 z7 z8 z9 z10 hd0
        have HBE := hide hbe
        cases hr : Hx.rightF l k
        · have HF : Hid (Hx.wrongF l 0 = (9, (k : Int))) := by
            show _ = _
            rw [← unhide HFIN, hr]; rfl
          clear hr hx hgd hgs hbe
          go_wp2_with fail
          go_returns
          exact ⟨by rw [unhide HF]; rfl, unhide HBE⟩
        · have HF : Hid (Hx.wrongF l (k + 1) = Hx.wrongF l 0) := by
            show _ = _
            rw [← unhide HFIN, hr]; rfl
          have HDN : Hid ((ints (Hx.doneL (l.take k))).toArray.setIfInBounds y.pl (.int .i64 ((hd : Int) + 1)) = (ints (Hx.doneL (l.take (k + 1)))).toArray) := by
            show _ = _
            rw [List.take_add_one, unhide HY]
            show _ = (ints (Hx.doneL (l.take k ++ [y]))).toArray
            rw [Hx.doneL_snoc, ints_set, unhide HHD]
          have HST : Hid ((ints (Hx.staysL (l.take k))).toArray.setIfInBounds y.pl (.int .i64 y.inn) = (ints (Hx.staysL (l.take (k + 1)))).toArray) := by
            show _ = _
            rw [List.take_add_one, unhide HY]
            show _ = (ints (Hx.staysL (l.take k ++ [y]))).toArray
            rw [Hx.staysL_snoc, ints_set]
          have d1 : wc.cell? ⟨w.heap.size, y.pl, none⟩ = some (.int .i64 (hd : Int)) := by
            rw [ints_cell hgd (by rw [Hx.doneL_len]; exact hpl), List.getD_eq_getElem?_getD, Hx.doneL_get _ hpl, unhide HHD]; rfl
          have d2 := blk_free hgd y.pl
          have z5 : wc.cell? ⟨tb, 5, none⟩ = some (.int .i64 (y.pl : Int)) := blk_cell hx 5
          have HGD := hide hgd
          have HGS := hide hgs
          have HX := hide hx
          clear hr hx hgd hgs hbe HFIN
          go_upto_region 9 with fail
          have HGD2 := hide (blk_set (unhide HGD) y.pl (.int .i64 ((hd : Int) + 1)))
          rw [unhide HDN] at HGD2
          have HGS2 := hide (blk_set_other (unhide HGS) (show gs ≠ w.heap.size by omega) y.pl (.int .i64 ((hd : Int) + 1)))
          have HX2 := hide (blk_set_other (unhide HX) (show tb ≠ w.heap.size by omega) y.pl (.int .i64 ((hd : Int) + 1)))
          have HBE2 := hide ((unhide HBE).setCell (p := ⟨w.heap.size, y.pl, none⟩) (Nat.le_refl _) (.int .i64 ((hd : Int) + 1)))
          clear HGD HGS HX HBE d1 d2 z5 HDN
          generalize wc.setCell ⟨w.heap.size, y.pl, none⟩ (.int .i64 ((hd : Int) + 1)) = wy at *
          have z5 : wy.cell? ⟨tb, 5, none⟩ = some (.int .i64 (y.pl : Int)) := blk_cell (unhide HX2) 5
          have z10 : wy.cell? ⟨tb, 10, none⟩ = some (.int .i64 y.inn) := blk_cell (unhide HX2) 10
          have s1 : wy.cell? ⟨gs, y.pl, none⟩ = some (.int .i64 ((Hx.staysL (l.take k)).getD y.pl 0)) := ints_cell (unhide HGS2) (by rw [Hx.staysL_len]; exact hpl)
          have s2 := blk_free (unhide HGS2) y.pl
          go_wp2_with fail
          go_roundg (l.length - (k + 1))
          case measure => omega
          case rel =>
            have hst := blk_set (unhide HGS2) y.pl (.int .i64 y.inn)
            rw [unhide HST] at hst
            exact ⟨k + 1, by omega, rfl, by go_num, unhide HF, blk_set_other (unhide HGD2) (show w.heap.size ≠ gs by omega) _ _, hst, (unhide HBE2).setCell (p := ⟨gs, y.pl, none⟩) (Nat.le_of_lt hgw) _⟩
    · rw [Hx.wrongF_end hlt] at hfin
      have HF : Hid (Hx.wrongF l 0 = (0, 0)) := hfin.symm
      clear hfin
      go_wp2_with fail
      go_returns
      exact ⟨by rw [unhide HF]; rfl, unhide HBE⟩

end Go.Proofs.YtppcnlkhdgmaiaaDoor
