/- What the program's reader of tables does: plateNumber, placedTurn. -/
import Derived.Test.YtppcnlkhdgmaiaaDoorCRdE
import Derived.Test.YtppcnlkhdgmaiaaDoorCScA
namespace Go.Proofs.YtppcnlkhdgmaiaaDoor
open Go.RowKit

set_option maxHeartbeats 2000000 in
theorem plateNo_any (s : ByteArray) (b : Nat) (st : Hx.St) (w : World) (hs : s.size ≤ 1000) (hp : st.pos ≤ s.size) (ht : Tab w) (hr : Rd 147 s b st w) :
    Calls Tryd.prog 95 #[.pointer (some ⟨b, 0, none⟩)] w fun e w' => e = .returned (.int .i64 ((Hx.oneF s 97 100 st).1 : Int)) ∧ Rd 147 s b (Hx.oneF s 97 100 st).2 w' ∧ w.grownBy w' (some b) := by
  have HT : Hid (Tab w) := ht
  have HR : Hid (Rd 147 s b st w) := hr
  have c0 := hr.c0
  have c1 := hr.c1
  have c2 := hr.c2
  have f1 := hr.fz 1
  have f2 := hr.fz 2
  clear ht hr
  obtain ⟨pos, bad⟩ := st
  simp only at c1 c2 hp
  cases bad
  · by_cases h3 : 97 ≤ Hx.byteAt s pos ∧ Hx.byteAt s pos ≤ 100
    · have hk : Hid ((Hx.kindOf (Hx.byteAt s pos) : Int) = 3) := by show _ = _; rw [(Hx.kindOf_three _).2 h3]; rfl
      have hin : pos < s.size := Hx.byteAt_in (by omega)
      have hb1 : Hx.byteAt s pos = (s[pos]'hin).toNat := Hx.byteAt_lt hin
      have h97 : (97 : Int) ≤ ((s[pos]'hin).toNat : Int) := by omega
      have h100 : ((s[pos]'hin).toNat : Int) ≤ 100 := by omega
      have hfin : Hid (Hx.oneF s 97 100 ⟨pos, false⟩ = ((s[pos]'hin).toNat - 97, ⟨pos + 1, false⟩)) := by
        show _ = _
        rw [Hx.oneF_yes rfl h3.1 h3.2]
        simp only [hb1]
      clear h3 hb1
      go_enter Tryd.func95, Tryd.ntmps95
      go_wp2_with (go_at_call 80; refine (kind_val s b ⟨pos, false⟩ _ _ hs hp hk.out HT.out HR.out).mono ?_; rintro e w' ⟨rfl, n1, rfl⟩)
      go_quiet (fail)
      go_wp2_with fail
      go_returns
      rw [hfin.out]
      exact ⟨ret_int (by simp only; omega), Rd.set1 (Rd.drewN HR.out _) (pos + 1), grown_trans (grown_drewN _ _ _) (grown_set _ _ _ _)⟩
    · obtain ⟨kv, hkv, hk1⟩ : ∃ kv : Int, (Hx.kindOf (Hx.byteAt s pos) : Int) = kv ∧ (kv != 3) = true := by
        refine ⟨_, rfl, ?_⟩
        rw [bne_iff_ne]; intro e; exact h3 ((Hx.kindOf_three (Hx.byteAt s pos)).1 (by omega))
      have HKV : Hid ((Hx.kindOf (Hx.byteAt s pos) : Int) = kv) := hkv
      have hfin : Hid (Hx.oneF s 97 100 ⟨pos, false⟩ = (0, ⟨pos, true⟩)) := Hx.oneF_no (by simp only; omega)
      clear h3 hkv
      go_enter Tryd.func95, Tryd.ntmps95
      go_wp2_with (go_at_call 80; refine (kind_val s b ⟨pos, false⟩ _ _ hs hp HKV.out HT.out HR.out).mono ?_; rintro e w' ⟨rfl, n1, rfl⟩)
      go_returns
      rw [hfin.out]
      exact ⟨rfl, Rd.set2 (Rd.drewN HR.out _) true, grown_trans (grown_drewN _ _ _) (grown_set _ _ _ _)⟩
  · have hfin : Hid (Hx.oneF s 97 100 ⟨pos, true⟩ = (0, ⟨pos, true⟩)) := Hx.oneF_bad rfl
    go_enter Tryd.func95, Tryd.ntmps95
    go_wp2_with fail
    go_returns
    rw [hfin.out]
    exact ⟨rfl, Rd.set2 HR.out true, grown_set _ _ _ _⟩

/-- A step of a table, as the program holds it: eleven cells. -/
def ptCells (y : Hx.TStp) : List Value := [.int .i64 (y.lo : Int), .int .i64 (y.hi : Int), .bool y.rest, .int .i64 (y.mn : Int), .int .i64 (y.mx : Int), .int .i64 (y.pl : Int), .int .i64 (y.no : Int), .bool (decide (0 ≤ y.inn)), .int .i64 (y.t : Int), .int .i64 y.out, .int .i64 y.inn]

/-- What lies in memory while a step of a table is read. -/
structure Pn (s : ByteArray) (b : Nat) (w w' : World) (st : Hx.St) (a : Array Value) : Prop where
  rd : Rd 147 s b st w'
  lo : w'.heap[w.heap.size + 1]? = some (.cells a 153 (0, 0))
  re : w'.heap[w.heap.size]? = some (.cells #[.int .i64 0, .int .i64 0, .bool false, .int .i64 0, .int .i64 0, .int .i64 0, .int .i64 0, .bool false, .int .i64 0, .int .i64 0, .int .i64 0] 153 (0, 0))
  gr : w.grownBy w' (some b)
  hb : b < w.heap.size

theorem Pn.call {s b w w' w'' st st' a} (h : Pn s b w w' st a) (hr : Rd 147 s b st' w'') (hg : w'.grownBy w'' (some b)) : Pn s b w w'' st' a :=
  ⟨hr, blk_kept h.lo hg (by have := h.hb; simp; omega), blk_kept h.re hg (by have := h.hb; simp; omega), grown_trans h.gr hg, h.hb⟩
theorem Pn.drewN {s b w w' st a} (h : Pn s b w w' st a) (n : Nat) : Pn s b w (w'.drewN n) st a := ⟨h.rd, h.lo, h.re, grown_trans h.gr (grown_drewN _ _ _), h.hb⟩
theorem Pn.store {s b w w' st a} (h : Pn s b w w' st a) (o : Nat) (v : Value) : Pn s b w (w'.setCell ⟨w.heap.size + 1, o, none⟩ v) st (a.setIfInBounds o v) :=
  ⟨h.rd.set_other (by have := h.hb; omega) _ _, blk_set h.lo _ _, blk_set_other h.re (by omega) _ _, grown_set_new h.gr (by omega) _ _, h.hb⟩
theorem Pn.tab {s b w w' st a} (h : Pn s b w w' st a) (ht : Tab w) (hb : 1 < b) : Tab w' := ht.grown hb h.gr

theorem Pn.init {s b w st} (hr : Rd 147 s b st w) (a z : Array Value) (hz : z = #[.int .i64 0, .int .i64 0, .bool false, .int .i64 0, .int .i64 0, .int .i64 0, .int .i64 0, .bool false, .int .i64 0, .int .i64 0, .int .i64 0]) : Pn s b w ((w.alloc (.cells z 153)).alloc (.cells a 153)) st a := by
  subst hz
  have b1 := blk_new w #[.int .i64 0, .int .i64 0, .bool false, .int .i64 0, .int .i64 0, .int .i64 0, .int .i64 0, .bool false, .int .i64 0, .int .i64 0, .int .i64 0] 153
  have s1 := size_alloc_ w (.cells #[.int .i64 0, .int .i64 0, .bool false, .int .i64 0, .int .i64 0, .int .i64 0, .int .i64 0, .bool false, .int .i64 0, .int .i64 0, .int .i64 0] 153)
  have r1 := hr.alloc (.cells #[.int .i64 0, .int .i64 0, .bool false, .int .i64 0, .int .i64 0, .int .i64 0, .int .i64 0, .bool false, .int .i64 0, .int .i64 0, .int .i64 0] 153)
  have g1 := grown_alloc w (.cells #[.int .i64 0, .int .i64 0, .bool false, .int .i64 0, .int .i64 0, .int .i64 0, .int .i64 0, .bool false, .int .i64 0, .int .i64 0, .int .i64 0] 153) (some b)
  generalize w.alloc (.cells #[.int .i64 0, .int .i64 0, .bool false, .int .i64 0, .int .i64 0, .int .i64 0, .int .i64 0, .bool false, .int .i64 0, .int .i64 0, .int .i64 0] 153) = w1 at *
  have b2 := blk_new w1 a 153
  rw [s1] at b2
  exact ⟨r1.alloc _, b2, blk_kept b1 (grown_alloc w1 _ none) (by simp), grown_trans g1 (grown_alloc w1 _ _), hr.lt⟩

set_option maxRecDepth 100000 in
set_option maxHeartbeats 4000000 in
theorem placed_any (s : ByteArray) (b : Nat) (st : Hx.St) (w : World) (hs : s.size ≤ 1000) (hp : st.pos ≤ s.size) (hb : 1 < b) (ht : Tab w) (hr : Rd 147 s b st w) :
    Calls Tryd.prog 78 #[.pointer (some ⟨b, 0, none⟩)] w fun e w' => e = .returned (.agg (ptCells (Hx.ptF s st).1).toArray) ∧ Rd 147 s b (Hx.ptF s st).2 w' ∧ w.grownBy w' (some b) := by
  have HT : Hid (Tab w) := ht
  have H0 := hide (Pn.init hr #[.int .i64 0, .int .i64 0, .bool false, .int .i64 0, .int .i64 0, .int .i64 0, .int .i64 0, .bool false, .int .i64 0, .int .i64 (-1), .int .i64 (-1)] _ rfl)
  have HB : Hid (b < w.heap.size) := hr.lt
  clear ht hr
  go_enter Tryd.func78, Tryd.ntmps78
  go_wp2_with fail
  refine (take_any s b st _ 59 _ hs hp rfl (by omega) (unhide H0).rd).mono ?_
  rintro e w1 ⟨rfl, hr1, hg1⟩
  have H1 := hide ((unhide H0).call hr1 hg1)
  have P1 := hide (Hx.takeF_le (s := s) (c := 59) (st := st) (by omega) hp)
  clear hr1 hg1 H0
  go_wp2_with fail
  refine (plateNo_any s b _ _ hs (unhide P1) ((unhide H1).tab HT.out hb) (unhide H1).rd).mono ?_
  rintro e w2 ⟨rfl, hr2, hg2⟩
  have H2 := hide ((unhide H1).call hr2 hg2)
  have P2 := hide (Hx.oneF_le (s := s) (lo := 97) (hi := 100) (by omega) (unhide P1))
  obtain ⟨p, hp_⟩ : ∃ p, p = Hx.oneF s 97 100 (Hx.takeF s 59 st) := ⟨_, rfl⟩
  have HP := hide hp_
  rw [← hp_] at H2 P2 ⊢
  clear hr2 hg2 H1 P1 hp_
  have f5 := blk_free (unhide H2).lo 5
  have c5 : w2.cell? ⟨w.heap.size + 1, 5, none⟩ = some (.int .i64 0) := blk_cell (unhide H2).lo 5
  go_wp2_with fail
  have H3 : Hid (Pn s b w _ p.2 #[.int .i64 0, .int .i64 0, .bool false, .int .i64 0, .int .i64 0, .int .i64 (p.1 : Int), .int .i64 0, .bool false, .int .i64 0, .int .i64 (-1), .int .i64 (-1)]) := (unhide H2).store 5 (.int .i64 (p.1 : Int))
  clear H2 f5 c5
  refine (number_any s b p.2 _ 1 _ hs (unhide P2) (by omega) rfl hb ((unhide H3).tab HT.out hb) (unhide H3).rd).mono ?_
  rintro e w3 ⟨rfl, hr3, hg3⟩
  have H4 := hide ((unhide H3).call hr3 hg3)
  have P3 := hide (Hx.numF_le (s := s) (m := 1) (unhide P2))
  obtain ⟨n, hn_⟩ : ∃ n, n = Hx.numF s 1 p.2 := ⟨_, rfl⟩
  have HN := hide hn_
  rw [← hn_] at H4 P3 ⊢
  clear hr3 hg3 H3 P2 hn_
  have f6 := blk_free (unhide H4).lo 6
  have c6 : w3.cell? ⟨w.heap.size + 1, 6, none⟩ = some (.int .i64 0) := blk_cell (unhide H4).lo 6
  go_wp2_with fail
  have H5 : Hid (Pn s b w _ n.2 #[.int .i64 0, .int .i64 0, .bool false, .int .i64 0, .int .i64 0, .int .i64 (p.1 : Int), .int .i64 (n.1 : Int), .bool false, .int .i64 0, .int .i64 (-1), .int .i64 (-1)]) := (unhide H4).store 6 (.int .i64 (n.1 : Int))
  clear H4 f6 c6
  refine (take_any s b n.2 _ 64 _ hs (unhide P3) rfl (by omega) (unhide H5).rd).mono ?_
  rintro e w4 ⟨rfl, hr4, hg4⟩
  have H6 := hide ((unhide H5).call hr4 hg4)
  have P4 := hide (Hx.takeF_le (s := s) (c := 64) (by omega) (unhide P3))
  clear hr4 hg4 H5 P3
  go_wp2_with fail
  refine (number_any s b _ _ 5 _ hs (unhide P4) (by omega) rfl hb ((unhide H6).tab HT.out hb) (unhide H6).rd).mono ?_
  rintro e w5 ⟨rfl, hr5, hg5⟩
  have H7 := hide ((unhide H6).call hr5 hg5)
  have P5 := hide (Hx.numF_le (s := s) (m := 5) (unhide P4))
  obtain ⟨t, ht_⟩ : ∃ t, t = Hx.numF s 5 (Hx.takeF s 64 n.2) := ⟨_, rfl⟩
  have HTT := hide ht_
  rw [← ht_] at H7 P5 ⊢
  clear hr5 hg5 H6 P4 ht_
  have f8 := blk_free (unhide H7).lo 8
  have c8 : w5.cell? ⟨w.heap.size + 1, 8, none⟩ = some (.int .i64 0) := blk_cell (unhide H7).lo 8
  go_wp2_with fail
  have H8 : Hid (Pn s b w _ t.2 #[.int .i64 0, .int .i64 0, .bool false, .int .i64 0, .int .i64 0, .int .i64 (p.1 : Int), .int .i64 (n.1 : Int), .bool false, .int .i64 (t.1 : Int), .int .i64 (-1), .int .i64 (-1)]) := (unhide H7).store 8 (.int .i64 (t.1 : Int))
  clear H7 f8 c8
  refine (take_any s b t.2 _ 43 _ hs (unhide P5) rfl (by omega) (unhide H8).rd).mono ?_
  rintro e w6 ⟨rfl, hr6, hg6⟩
  have H9 := hide ((unhide H8).call hr6 hg6)
  have P6 := hide (Hx.takeF_le (s := s) (c := 43) (by omega) (unhide P5))
  clear hr6 hg6 H8 P5
  go_wp2_with fail
  refine (bounds_any s b _ _ hs (unhide P6) hb ((unhide H9).tab HT.out hb) (unhide H9).rd).mono ?_
  rintro e w7 ⟨rfl, hr7, hg7⟩
  have H10 := hide ((unhide H9).call hr7 hg7)
  have P7 := hide (Hx.boundsF_le (s := s) (unhide P6))
  obtain ⟨d, hd_⟩ : ∃ d, d = Hx.boundsF s (Hx.takeF s 43 t.2) := ⟨_, rfl⟩
  have HD := hide hd_
  rw [← hd_] at H10 P7 ⊢
  clear hr7 hg7 H9 P6 hd_
  have f := blk_free (unhide H10).lo
  have c0 : w7.cell? ⟨w.heap.size + 1, 0, none⟩ = some (.int .i64 0) := blk_cell (unhide H10).lo 0
  have c1 : w7.cell? ⟨w.heap.size + 1, 1, none⟩ = some (.int .i64 0) := blk_cell (unhide H10).lo 1
  go_wp2_with fail
  have H11 : Hid (Pn s b w _ d.2 #[.int .i64 (d.1.lo : Int), .int .i64 (d.1.hi : Int), .bool false, .int .i64 0, .int .i64 0, .int .i64 (p.1 : Int), .int .i64 (n.1 : Int), .bool false, .int .i64 (t.1 : Int), .int .i64 (-1), .int .i64 (-1)]) := ((unhide H10).store 0 (.int .i64 (d.1.lo : Int))).store 1 (.int .i64 (d.1.hi : Int))
  have HEAD : Hid (Hx.ptHead s st = ((p.1, n.1, t.1, d.1), d.2)) := by
    show _ = _
    simp only [Hx.ptHead, ← unhide HP, ← unhide HN, ← unhide HTT, ← unhide HD]
  clear H10 f c0 c1 HP HN HTT HD
  obtain ⟨kv, hkv, hkd⟩ : ∃ kv : Int, (Hx.kindOf (Hx.byteAt s d.2.pos) : Int) = kv ∧ ((kv = 7 ∧ Hx.byteAt s d.2.pos = 60) ∨ ((kv == 7) = false ∧ Hx.byteAt s d.2.pos ≠ 60)) := by
    refine ⟨_, rfl, ?_⟩
    by_cases e : Hx.byteAt s d.2.pos = 60
    · exact Or.inl ⟨by rw [(Hx.kindOf_seven _).2 e]; rfl, e⟩
    · refine Or.inr ⟨?_, e⟩
      rw [beq_eq_false_iff_ne]; intro g; exact e ((Hx.kindOf_seven (Hx.byteAt s d.2.pos)).1 (by omega))
  have HKV := hide hkv
  clear hkv
  go_upto_if 29 with (go_at_call 80; refine (kind_val s b d.2 _ _ hs (unhide P7) (unhide HKV) ((unhide H11).tab HT.out hb) (unhide H11).rd).mono ?_; rintro e w8 ⟨rfl, n8, rfl⟩)
  go_cut [] (fun wc => Pn s b w wc (Hx.ptRest s d.2).2 #[.int .i64 (d.1.lo : Int), .int .i64 (d.1.hi : Int), .bool (Hx.ptRest s d.2).1.1, .int .i64 ((Hx.ptRest s d.2).1.2.2.1 : Int), .int .i64 ((Hx.ptRest s d.2).1.2.2.2 : Int), .int .i64 (p.1 : Int), .int .i64 (n.1 : Int), .bool false, .int .i64 (t.1 : Int), .int .i64 (Hx.ptRest s d.2).1.2.1, .int .i64 (-1)])
  case first =>
    rcases hkd with ⟨rfl, h60⟩ | ⟨hk7, h60⟩
    · have HRR := hide (show Hx.ptRest s d.2 = _ from if_pos h60)
      clear h60 HKV
      have H12 := hide ((unhide H11).drewN n8)
      clear H11
      go_wp2_with fail
      refine (take_any s b d.2 _ 60 _ hs (unhide P7) rfl (by omega) (unhide H12).rd).mono ?_
      rintro e w9 ⟨rfl, hr9, hg9⟩
      have H13 := hide ((unhide H12).call hr9 hg9)
      have P8 := hide (Hx.takeF_le (s := s) (c := 60) (by omega) (unhide P7))
      clear hr9 hg9 H12
      have f2 := blk_free (unhide H13).lo 2
      have c2 : w9.cell? ⟨w.heap.size + 1, 2, none⟩ = some (.bool false) := blk_cell (unhide H13).lo 2
      go_wp2_with fail
      have H14 : Hid (Pn s b w _ (Hx.takeF s 60 d.2) #[.int .i64 (d.1.lo : Int), .int .i64 (d.1.hi : Int), .bool true, .int .i64 0, .int .i64 0, .int .i64 (p.1 : Int), .int .i64 (n.1 : Int), .bool false, .int .i64 (t.1 : Int), .int .i64 (-1), .int .i64 (-1)]) := (unhide H13).store 2 (.bool true)
      clear H13 f2 c2
      refine (number_any s b _ _ 1 _ hs (unhide P8) (by omega) rfl hb ((unhide H14).tab HT.out hb) (unhide H14).rd).mono ?_
      rintro e w10 ⟨rfl, hr10, hg10⟩
      have H15 := hide ((unhide H14).call hr10 hg10)
      have P9 := hide (Hx.numF_le (s := s) (m := 1) (unhide P8))
      obtain ⟨o, ho_⟩ : ∃ o, o = Hx.numF s 1 (Hx.takeF s 60 d.2) := ⟨_, rfl⟩
      rw [← ho_] at H15 P9 HRR ⊢
      clear hr10 hg10 H14 P8 ho_
      have f9 := blk_free (unhide H15).lo 9
      have c9 : w10.cell? ⟨w.heap.size + 1, 9, none⟩ = some (.int .i64 (-1)) := blk_cell (unhide H15).lo 9
      go_wp2_with fail
      have H16 : Hid (Pn s b w _ o.2 #[.int .i64 (d.1.lo : Int), .int .i64 (d.1.hi : Int), .bool true, .int .i64 0, .int .i64 0, .int .i64 (p.1 : Int), .int .i64 (n.1 : Int), .bool false, .int .i64 (t.1 : Int), .int .i64 (o.1 : Int), .int .i64 (-1)]) := (unhide H15).store 9 (.int .i64 (o.1 : Int))
      clear H15 f9 c9
      refine (take_any s b o.2 _ 58 _ hs (unhide P9) rfl (by omega) (unhide H16).rd).mono ?_
      rintro e w11 ⟨rfl, hr11, hg11⟩
      have H17 := hide ((unhide H16).call hr11 hg11)
      have P10 := hide (Hx.takeF_le (s := s) (c := 58) (by omega) (unhide P9))
      clear hr11 hg11 H16 P9
      go_wp2_with fail
      refine (bounds_any s b _ _ hs (unhide P10) hb ((unhide H17).tab HT.out hb) (unhide H17).rd).mono ?_
      rintro e w12 ⟨rfl, hr12, hg12⟩
      have H18 := hide ((unhide H17).call hr12 hg12)
      obtain ⟨q, hq_⟩ : ∃ q, q = Hx.boundsF s (Hx.takeF s 58 o.2) := ⟨_, rfl⟩
      rw [← hq_] at H18 HRR ⊢
      clear hr12 hg12 H17 P10 hq_
      have f := blk_free (unhide H18).lo
      have c3 : w12.cell? ⟨w.heap.size + 1, 3, none⟩ = some (.int .i64 0) := blk_cell (unhide H18).lo 3
      have c4 : w12.cell? ⟨w.heap.size + 1, 4, none⟩ = some (.int .i64 0) := blk_cell (unhide H18).lo 4
      go_wp2_with fail
      go_meet
      case rel =>
        have H19 : Pn s b w _ q.2 #[.int .i64 (d.1.lo : Int), .int .i64 (d.1.hi : Int), .bool true, .int .i64 (q.1.lo : Int), .int .i64 (q.1.hi : Int), .int .i64 (p.1 : Int), .int .i64 (n.1 : Int), .bool false, .int .i64 (t.1 : Int), .int .i64 (o.1 : Int), .int .i64 (-1)] := ((unhide H18).store 3 (.int .i64 (q.1.lo : Int))).store 4 (.int .i64 (q.1.hi : Int))
        rw [unhide HRR]
        exact H19
    · have HRR := hide (show Hx.ptRest s d.2 = _ from if_neg h60)
      clear h60 HKV
      go_wp2_with fail
      go_meet
      case rel =>
        rw [unhide HRR]
        exact (unhide H11).drewN n8
  case rest =>
    have HC := hide hcut
    have P8 := hide (Hx.ptRest_le (s := s) (unhide P7))
    clear hcut H11 hkd HKV P7
    obtain ⟨r, hr_⟩ : ∃ r, r = Hx.ptRest s d.2 := ⟨_, rfl⟩
    have HR := hide hr_
    rw [← hr_] at HC P8
    clear hr_
    obtain ⟨kv, hkv, hkd⟩ : ∃ kv : Int, (Hx.kindOf (Hx.byteAt s r.2.pos) : Int) = kv ∧ ((kv = 8 ∧ Hx.byteAt s r.2.pos = 62) ∨ ((kv == 8) = false ∧ Hx.byteAt s r.2.pos ≠ 62)) := by
      refine ⟨_, rfl, ?_⟩
      by_cases e : Hx.byteAt s r.2.pos = 62
      · exact Or.inl ⟨by rw [(Hx.kindOf_eight _).2 e]; rfl, e⟩
      · refine Or.inr ⟨?_, e⟩
        rw [beq_eq_false_iff_ne]; intro g; exact e ((Hx.kindOf_eight (Hx.byteAt s r.2.pos)).1 (by omega))
    have HKV := hide hkv
    clear hkv
    go_upto_if 47 with (go_at_call 80; refine (kind_val s b r.2 _ _ hs (unhide P8) (unhide HKV) ((unhide HC).tab HT.out hb) (unhide HC).rd).mono ?_; rintro e w8 ⟨rfl, n8, rfl⟩)
    go_cut [] (fun wd => Pn s b w wd (Hx.ptInto s r.2).2 #[.int .i64 (d.1.lo : Int), .int .i64 (d.1.hi : Int), .bool r.1.1, .int .i64 (r.1.2.2.1 : Int), .int .i64 (r.1.2.2.2 : Int), .int .i64 (p.1 : Int), .int .i64 (n.1 : Int), .bool (decide (0 ≤ (Hx.ptInto s r.2).1)), .int .i64 (t.1 : Int), .int .i64 r.1.2.1, .int .i64 (Hx.ptInto s r.2).1])
    case first =>
      rcases hkd with ⟨rfl, h62⟩ | ⟨hk8, h62⟩
      · have HRR := hide (show Hx.ptInto s r.2 = _ from if_pos h62)
        clear h62 HKV
        have H12 := hide ((unhide HC).drewN n8)
        clear HC
        go_wp2_with fail
        refine (take_any s b r.2 _ 62 _ hs (unhide P8) rfl (by omega) (unhide H12).rd).mono ?_
        rintro e w9 ⟨rfl, hr9, hg9⟩
        have H13 := hide ((unhide H12).call hr9 hg9)
        have P9 := hide (Hx.takeF_le (s := s) (c := 62) (by omega) (unhide P8))
        clear hr9 hg9 H12
        have f7 := blk_free (unhide H13).lo 7
        have c7 : w9.cell? ⟨w.heap.size + 1, 7, none⟩ = some (.bool false) := blk_cell (unhide H13).lo 7
        go_wp2_with fail
        have H14 : Hid (Pn s b w _ (Hx.takeF s 62 r.2) #[.int .i64 (d.1.lo : Int), .int .i64 (d.1.hi : Int), .bool r.1.1, .int .i64 (r.1.2.2.1 : Int), .int .i64 (r.1.2.2.2 : Int), .int .i64 (p.1 : Int), .int .i64 (n.1 : Int), .bool true, .int .i64 (t.1 : Int), .int .i64 r.1.2.1, .int .i64 (-1)]) := (unhide H13).store 7 (.bool true)
        clear H13 f7 c7
        refine (number_any s b _ _ 1 _ hs (unhide P9) (by omega) rfl hb ((unhide H14).tab HT.out hb) (unhide H14).rd).mono ?_
        rintro e w10 ⟨rfl, hr10, hg10⟩
        have H15 := hide ((unhide H14).call hr10 hg10)
        obtain ⟨o, ho_⟩ : ∃ o, o = Hx.numF s 1 (Hx.takeF s 62 r.2) := ⟨_, rfl⟩
        rw [← ho_] at H15 HRR ⊢
        clear hr10 hg10 H14 P9 ho_
        have f10 := blk_free (unhide H15).lo 10
        have c10 : w10.cell? ⟨w.heap.size + 1, 10, none⟩ = some (.int .i64 (-1)) := blk_cell (unhide H15).lo 10
        go_wp2_with fail
        go_meet
        case rel =>
          have H16 : Pn s b w _ o.2 #[.int .i64 (d.1.lo : Int), .int .i64 (d.1.hi : Int), .bool r.1.1, .int .i64 (r.1.2.2.1 : Int), .int .i64 (r.1.2.2.2 : Int), .int .i64 (p.1 : Int), .int .i64 (n.1 : Int), .bool true, .int .i64 (t.1 : Int), .int .i64 r.1.2.1, .int .i64 (o.1 : Int)] := (unhide H15).store 10 (.int .i64 (o.1 : Int))
          have e : decide (0 ≤ (o.1 : Int)) = true := by simp
          rw [unhide HRR]
          simp only [e]
          exact H16
      · have HRR := hide (show Hx.ptInto s r.2 = _ from if_neg h62)
        clear h62 HKV
        go_wp2_with fail
        go_meet
        case rel =>
          rw [unhide HRR]
          exact (unhide HC).drewN n8
    case rest =>
      clear HC hkd HKV
      obtain ⟨i, hi_⟩ : ∃ i, i = Hx.ptInto s r.2 := ⟨_, rfl⟩
      have HI := hide hi_
      rw [← hi_] at hcut
      clear hi_
      have HF : Hid (Hx.ptF s st = (⟨p.1, n.1, d.1.lo, d.1.hi, r.1.1, r.1.2.2.1, r.1.2.2.2, t.1, r.1.2.1, i.1⟩, i.2)) := by
        show _ = _
        simp only [Hx.ptF, unhide HEAD, ← unhide HR, ← unhide HI]
      have HC := hide hcut
      have l0 : wc.cell? ⟨w.heap.size + 1, 0, none⟩ = some (.int .i64 (d.1.lo : Int)) := blk_cell hcut.lo 0
      have l1 : wc.cell? ⟨w.heap.size + 1, 1, none⟩ = some (.int .i64 (d.1.hi : Int)) := blk_cell hcut.lo 1
      have l2 : wc.cell? ⟨w.heap.size + 1, 2, none⟩ = some (.bool r.1.1) := blk_cell hcut.lo 2
      have l3 : wc.cell? ⟨w.heap.size + 1, 3, none⟩ = some (.int .i64 (r.1.2.2.1 : Int)) := blk_cell hcut.lo 3
      have l4 : wc.cell? ⟨w.heap.size + 1, 4, none⟩ = some (.int .i64 (r.1.2.2.2 : Int)) := blk_cell hcut.lo 4
      have l5 : wc.cell? ⟨w.heap.size + 1, 5, none⟩ = some (.int .i64 (p.1 : Int)) := blk_cell hcut.lo 5
      have l6 : wc.cell? ⟨w.heap.size + 1, 6, none⟩ = some (.int .i64 (n.1 : Int)) := blk_cell hcut.lo 6
      have l7 : wc.cell? ⟨w.heap.size + 1, 7, none⟩ = some (.bool (decide (0 ≤ i.1))) := blk_cell hcut.lo 7
      have l8 : wc.cell? ⟨w.heap.size + 1, 8, none⟩ = some (.int .i64 (t.1 : Int)) := blk_cell hcut.lo 8
      have l9 : wc.cell? ⟨w.heap.size + 1, 9, none⟩ = some (.int .i64 r.1.2.1) := blk_cell hcut.lo 9
      have l10 : wc.cell? ⟨w.heap.size + 1, 10, none⟩ = some (.int .i64 i.1) := blk_cell hcut.lo 10
      have r0 : wc.cell? ⟨w.heap.size, 0, none⟩ = some (.int .i64 0) := blk_cell hcut.re 0
      have r1 : wc.cell? ⟨w.heap.size, 1, none⟩ = some (.int .i64 0) := blk_cell hcut.re 1
      have r2 : wc.cell? ⟨w.heap.size, 2, none⟩ = some (.bool false) := blk_cell hcut.re 2
      have r3 : wc.cell? ⟨w.heap.size, 3, none⟩ = some (.int .i64 0) := blk_cell hcut.re 3
      have r4 : wc.cell? ⟨w.heap.size, 4, none⟩ = some (.int .i64 0) := blk_cell hcut.re 4
      have r5 : wc.cell? ⟨w.heap.size, 5, none⟩ = some (.int .i64 0) := blk_cell hcut.re 5
      have r6 : wc.cell? ⟨w.heap.size, 6, none⟩ = some (.int .i64 0) := blk_cell hcut.re 6
      have r7 : wc.cell? ⟨w.heap.size, 7, none⟩ = some (.bool false) := blk_cell hcut.re 7
      have r8 : wc.cell? ⟨w.heap.size, 8, none⟩ = some (.int .i64 0) := blk_cell hcut.re 8
      have r9 : wc.cell? ⟨w.heap.size, 9, none⟩ = some (.int .i64 0) := blk_cell hcut.re 9
      have r10 : wc.cell? ⟨w.heap.size, 10, none⟩ = some (.int .i64 0) := blk_cell hcut.re 10
      have ff := blk_free hcut.re
      clear hcut HEAD HR HI
      go_wp2_with fail
      refine bodyPost_ret (v := .agg #[.int .i64 (d.1.lo : Int), .int .i64 (d.1.hi : Int), .bool r.1.1, .int .i64 (r.1.2.2.1 : Int), .int .i64 (r.1.2.2.2 : Int), .int .i64 (p.1 : Int), .int .i64 (n.1 : Int), .bool (decide (0 ≤ i.1)), .int .i64 (t.1 : Int), .int .i64 r.1.2.1, .int .i64 i.1]) (by simp [results, Tryd.results78, go_sem, r0, r1, r2, r3, r4, r5, r6, r7, r8, r9, r10]) rfl ?_
      rw [unhide HF]
      have hk : w.heap.size ≠ b := by have := HB.out; omega
      have hle := Nat.le_refl w.heap.size
      refine ⟨rfl, ?_, ?_⟩
      · exact Rd.set_other (Rd.set_other (Rd.set_other (Rd.set_other (Rd.set_other (Rd.set_other (Rd.set_other (Rd.set_other (Rd.set_other (Rd.set_other (Rd.set_other (unhide HC).rd hk _ _) hk _ _) hk _ _) hk _ _) hk _ _) hk _ _) hk _ _) hk _ _) hk _ _) hk _ _) hk _ _
      · exact grown_set_new (grown_set_new (grown_set_new (grown_set_new (grown_set_new (grown_set_new (grown_set_new (grown_set_new (grown_set_new (grown_set_new (grown_set_new (unhide HC).gr hle _ _) hle _ _) hle _ _) hle _ _) hle _ _) hle _ _) hle _ _) hle _ _) hle _ _) hle _ _) hle _ _

end Go.Proofs.YtppcnlkhdgmaiaaDoor
