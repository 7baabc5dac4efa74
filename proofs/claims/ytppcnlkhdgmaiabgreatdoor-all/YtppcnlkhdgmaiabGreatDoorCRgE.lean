/- What the document's own reading of a table does: Table answers the steps, or the place at which the text ceases to be a table. -/
import Derived.Test.YtppcnlkhdgmaiabGreatDoorCRfD
namespace Go.Proofs.YtppcnlkhdgmaiabGreatDoor
open Go.RowKit


/-- A step of a table: ten cells. -/
def tsCells (y : Hx.TStp) : List Value := [.int .i64 (y.pl : Int), .int .i64 (y.no : Int), .int .i64 (y.lo : Int), .int .i64 (y.hi : Int), .bool y.rest, .int .i64 (y.mn : Int), .int .i64 (y.mx : Int), .int .i64 (y.t : Int), .int .i64 y.out, .int .i64 y.inn]
def tssCells (l : List Hx.TStp) : List Value := l.flatMap tsCells
theorem tssCells_snoc (l : List Hx.TStp) (y : Hx.TStp) : tssCells (l ++ [y]) = tssCells l ++ tsCells y := by simp [tssCells]
theorem tsCells_one (y : Hx.TStp) : ∀ u ∈ tsCells y, u.oneCell' = true := by
  intro u hu
  simp [tsCells] at hu
  rcases hu with rfl | rfl | rfl | rfl | rfl | rfl | rfl | rfl | rfl | rfl <;> rfl

/-- What lies in memory while the document reads a table, with a step under way in block xb. -/
structure InT (s : ByteArray) (w : World) (xb : Nat) (w' : World) (st : Hx.St) (a xa : Array Value) (v : Value) (l : List Hx.TStp) : Prop where
  he : He s w w' st a
  xx : w'.heap[xb]? = some (.cells xa 53 (0, 0))
  ow : w'.ownsRow (w.heap.size + 3) 53 10 v l.length (tssCells l)
  ap : v.ownBlock ≠ some xb
  ge : w.heap.size + 3 ≤ xb
theorem InT.call {s w xb w' w'' st st' a xa v l} (h : InT s w xb w' st a xa v l) (hr : Rd 108 s (w.heap.size + 1) st' w'') (hg : w'.grownBy w'' (some (w.heap.size + 1))) : InT s w xb w'' st' a xa v l :=
  ⟨h.he.call hr hg, blk_kept h.xx hg (by have := h.ge; simp; omega), h.ow.kept hg (own_ne h.ow (by omega)), h.ap, h.ge⟩
theorem InT.setx {s w xb w' st a xa v l} (h : InT s w xb w' st a xa v l) (o : Nat) (u : Value) : InT s w xb (w'.setCell ⟨xb, o, none⟩ u) st a (xa.setIfInBounds o u) v l :=
  ⟨h.he.own (grown_set w' xb o u) (fun k e => by have := h.ge; simp at e; omega), blk_set h.xx _ _, h.ow.kept (grown_set w' xb o u) (Or.inr h.ap), h.ap, h.ge⟩
theorem InT.app {s w xb w' w'' st a xa v v' l y o} (h : InT s w xb w' st a xa v l) (ho : w''.ownsRow (w.heap.size + 3) 53 10 v' (l.length + 1) (tssCells l ++ tsCells y)) (hg : (w'.alloc o).grownBy w'' v.ownBlock) :
    He s w w'' st a ∧ w''.ownsRow (w.heap.size + 3) 53 10 v' (l ++ [y]).length (tssCells (l ++ [y])) := by
  refine ⟨(h.he.own (grown_alloc w' o none) (by simp)).own hg (fun k e => (h.ow.lt k e).1), ?_⟩
  rw [tssCells_snoc, List.length_append]; exact ho

set_option maxRecDepth 100000 in
set_option maxHeartbeats 8000000 in
theorem table_any (s : ByteArray) (w : World) (hs : s.size ≤ 1000) :
    Calls Tryz.prog 27 #[.string s] w fun e w' => Below w.heap.size w w' ∧
      (((Hx.tableF s).1.bad = true ∧ ∃ a3 n3 c3, e = .returned (.tuple #[.agg #[.int .i64 ((Hx.theadF s).1 : Int), .int .i64 0, .int .i64 0, .slice a3 n3 c3, .int .i64 0], .int .i64 ((Hx.tableF s).1.pos : Int)])) ∨
       ((Hx.tableF s).1.bad = false ∧ ∃ v, e = .returned (.tuple #[.agg #[.int .i64 ((Hx.theadF s).1 : Int), .int .i64 0, .int .i64 0, v, .int .i64 0], .int .i64 (-1)]) ∧ w'.ownsRow w.heap.size 53 10 v (Hx.tableF s).2.length (tssCells (Hx.tableF s).2) ∧ (Hx.tableF s).2.length ≤ 1001)) := by
  have hs1 : s.size ≤ 1000000 := by omega
  go_enter Tryz.func27, Tryz.ntmps27
  go_wp2_with fail
  have h0 := He.init s w
  have HH := hide h0
  refine (must_any s _ ⟨0, false⟩ _ 106 _ hs1 (Nat.zero_le _) rfl (by omega) h0.rd).mono ?_
  clear h0
  rintro e w1 ⟨rfl, hr1, hg1⟩
  have H1 := hide ((unhide HH).call hr1 hg1)
  clear hr1 hg1 HH
  go_wp2_with fail
  refine (refnum_any s _ _ _ 1 _ hs1 (Hx.takeF_le (by omega) (Nat.zero_le _)) (by omega) (by omega) rfl (unhide H1).rd).mono ?_
  rintro e w2 ⟨rfl, hr2, hg2⟩
  have H2 : Hid (He s w w2 (Hx.theadF s).2 _) := ((unhide H1).call hr2 hg2)
  clear hr2 hg2 H1
  have P2 : Hid ((Hx.theadF s).2.pos ≤ s.size) := Hx.numF_le (Hx.takeF_le (by omega) (Nat.zero_le _))
  have c0 : w2.cell? ⟨w.heap.size + 1 + 1, 0, none⟩ = some (.int .i64 0) := blk_cell (unhide H2).lo 0
  have f0 := blk_free (unhide H2).lo 0
  go_wp2_with fail
  have H3 : Hid (He s w _ _ #[.int .i64 ((Hx.theadF s).1 : Int), .int .i64 0, .int .i64 0, .slice none 0 0, .int .i64 0]) := ((unhide H2).store 0 (.int .i64 ((Hx.theadF s).1 : Int)))
  clear H2 c0 f0
  obtain ⟨i0, hi, hz0, hz1, hz2⟩ := info_parts Tryz.info53
  have HI := hide hi
  have HZ0 := hide hz0
  have HZ1 := hide hz1
  have HZ2 := hide hz2
  clear hi hz0 hz1 hz2
  go_loopg [] (Hx.mT s (Hx.theadF s).2) (fun gk wr => ∃ (st : Hx.St) (acc : List Hx.TStp) (v : Value), st.pos ≤ s.size ∧ gk = Hx.mT s st ∧ acc.length ≤ s.size + 1 ∧ (st.bad = false → acc.length ≤ st.pos) ∧ He s w wr st #[.int .i64 ((Hx.theadF s).1 : Int), .int .i64 0, .int .i64 0, v, .int .i64 0] ∧ wr.ownsRow (w.heap.size + 3) 53 10 v acc.length (tssCells acc) ∧ Hx.tablesF s st acc = Hx.tableF s)
  case atStart => exact ⟨_, [], _, P2.out, rfl, by simp, by simp, unhide H3, World.ownsRow_nil _ _ _ _, rfl⟩
  case round =>
    clear H3 P2
    obtain ⟨st, acc, v, hpos, rfl, hacc, hacc2, hhe, hown, hfin⟩ := hrel
    obtain ⟨ao, cap, rfl⟩ := own_form hown
    have c1 := hhe.rd.c1
    have c2 := hhe.rd.c2
    have HHE := hide hhe
    have HOWN := hide hown
    have HFIN := hide hfin
    clear hhe hown hfin
    by_cases hgo : st.bad = false ∧ st.pos < s.size
    · obtain ⟨pos, bad⟩ := st
      simp only at hgo c1 c2 hpos hacc2
      obtain ⟨rfl, hlt⟩ := hgo
      have hacc3 := hacc2 rfl
      have hltI : (pos : Int) < (s.size : Int) := by omega
      have HMT := hide (Hx.mT_lt (s := s) (st := ⟨pos, false⟩) rfl hlt)
      have HGT := hide (Hx.tstepF_gt (s := s) (st := ⟨pos, false⟩))
      have HFIN2 := hide ((Hx.tablesF_more (s := s) (st := ⟨pos, false⟩) (acc := acc) rfl hlt).symm.trans (unhide HFIN))
      clear hacc2 HFIN
      go_wp2_with fail
      have hxge : w.heap.size + 3 ≤ wr.heap.size := lt_of_block (unhide HHE).lo
      have IN0 : Hid (InT s w wr.heap.size _ _ _ _ (.slice ao acc.length cap) acc) := ⟨(unhide HHE).own (grown_alloc wr (.cells #[.int .i64 0, .int .i64 0, .int .i64 0, .int .i64 0, .bool false, .int .i64 0, .int .i64 0, .int .i64 0, .int .i64 (-1), .int .i64 (-1)] 53) none) (by simp), blk_new wr _ _, (unhide HOWN).alloc _, fun e => by have := ((unhide HOWN).lt _ e).2; omega, hxge⟩
      clear HHE HOWN c1 c2
      obtain ⟨xb, hxb⟩ : ∃ xb, xb = wr.heap.size := ⟨_, rfl⟩
      rw [← hxb] at IN0 hxge ⊢
      clear hxb
      refine (must_any s _ ⟨pos, false⟩ _ 59 _ hs1 hpos rfl (by omega) (unhide IN0).he.rd).mono ?_
      rintro e w10 ⟨rfl, hr, hg⟩
      have I10 := hide ((unhide IN0).call hr hg)
      obtain ⟨t10, hE⟩ : ∃ t, t = Hx.takeF s 59 ⟨pos, false⟩ := ⟨_, rfl⟩
      have P10 : t10.pos ≤ s.size := by rw [hE]; exact Hx.takeF_le (by omega) hpos
      rw [← hE] at I10
      have E10 := hide hE
      clear hr hg hE IN0
      go_wp2_with fail
      refine (one_any s _ t10 97 100 _ _ _ hs1 P10 rfl rfl (by omega) (unhide I10).he.rd).mono ?_
      rintro e w11 ⟨rfl, hr, hg⟩
      have J11 := hide ((unhide I10).call hr hg)
      have hP := Hx.oneF_le (s := s) (lo := 97) (hi := 100) (st := t10) (by omega) P10
      obtain ⟨r, hE⟩ : ∃ t, t = Hx.oneF s 97 100 t10 := ⟨_, rfl⟩
      rw [← hE] at J11 hP ⊢
      obtain ⟨v11, t11⟩ := r
      simp only at J11 hP ⊢
      have P11 : t11.pos ≤ s.size := hP
      have E11 := hide hE
      have xo : w11.cell? ⟨xb, 0, none⟩ = some (.int .i64 0) := blk_cell (unhide J11).xx 0
      have xf := blk_free (unhide J11).xx
      clear hr hg hE hP I10
      go_wp2_with fail
      have I11 : Hid (InT s w xb _ _ _ #[.int .i64 (v11 : Int), .int .i64 0, .int .i64 0, .int .i64 0, .bool false, .int .i64 0, .int .i64 0, .int .i64 0, .int .i64 (-1), .int .i64 (-1)] _ _) := (unhide J11).setx 0 (.int .i64 (v11 : Int))
      clear J11 xo xf
      refine (one_any s _ t11 48 57 _ _ _ hs1 P11 rfl rfl (by omega) (unhide I11).he.rd).mono ?_
      rintro e w12 ⟨rfl, hr, hg⟩
      have J12 := hide ((unhide I11).call hr hg)
      have hP := Hx.oneF_le (s := s) (lo := 48) (hi := 57) (st := t11) (by omega) P11
      obtain ⟨r, hE⟩ : ∃ t, t = Hx.oneF s 48 57 t11 := ⟨_, rfl⟩
      rw [← hE] at J12 hP ⊢
      obtain ⟨v12, t12⟩ := r
      simp only at J12 hP ⊢
      have P12 : t12.pos ≤ s.size := hP
      have E12 := hide hE
      have xo : w12.cell? ⟨xb, 1, none⟩ = some (.int .i64 0) := blk_cell (unhide J12).xx 1
      have xf := blk_free (unhide J12).xx
      clear hr hg hE hP I11
      go_wp2_with fail
      have I12 : Hid (InT s w xb _ _ _ #[.int .i64 (v11 : Int), .int .i64 (v12 : Int), .int .i64 0, .int .i64 0, .bool false, .int .i64 0, .int .i64 0, .int .i64 0, .int .i64 (-1), .int .i64 (-1)] _ _) := (unhide J12).setx 1 (.int .i64 (v12 : Int))
      clear J12 xo xf
      refine (must_any s _ t12 _ 64 _ hs1 P12 rfl (by omega) (unhide I12).he.rd).mono ?_
      rintro e w13 ⟨rfl, hr, hg⟩
      have I13 := hide ((unhide I12).call hr hg)
      obtain ⟨t13, hE⟩ : ∃ t, t = Hx.takeF s 64 t12 := ⟨_, rfl⟩
      have P13 : t13.pos ≤ s.size := by rw [hE]; exact Hx.takeF_le (by omega) P12
      rw [← hE] at I13
      have E13 := hide hE
      clear hr hg hE I12
      go_wp2_with fail
      refine (refnum_any s _ t13 _ 5 _ hs1 P13 (by omega) (by omega) rfl (unhide I13).he.rd).mono ?_
      rintro e w14 ⟨rfl, hr, hg⟩
      have J14 := hide ((unhide I13).call hr hg)
      have hP := Hx.numF_le (s := s) (m := 5) (st := t13) P13
      obtain ⟨r, hE⟩ : ∃ t, t = Hx.numF s 5 t13 := ⟨_, rfl⟩
      rw [← hE] at J14 hP ⊢
      obtain ⟨v14, t14⟩ := r
      simp only at J14 hP ⊢
      have P14 : t14.pos ≤ s.size := hP
      have E14 := hide hE
      have xo : w14.cell? ⟨xb, 7, none⟩ = some (.int .i64 0) := blk_cell (unhide J14).xx 7
      have xf := blk_free (unhide J14).xx
      clear hr hg hE hP I13
      go_wp2_with fail
      have I14 : Hid (InT s w xb _ _ _ #[.int .i64 (v11 : Int), .int .i64 (v12 : Int), .int .i64 0, .int .i64 0, .bool false, .int .i64 0, .int .i64 0, .int .i64 (v14 : Int), .int .i64 (-1), .int .i64 (-1)] _ _) := (unhide J14).setx 7 (.int .i64 (v14 : Int))
      clear J14 xo xf
      refine (must_any s _ t14 _ 43 _ hs1 P14 rfl (by omega) (unhide I14).he.rd).mono ?_
      rintro e w15 ⟨rfl, hr, hg⟩
      have I15 := hide ((unhide I14).call hr hg)
      obtain ⟨t15, hE⟩ : ∃ t, t = Hx.takeF s 43 t14 := ⟨_, rfl⟩
      have P15 : t15.pos ≤ s.size := by rw [hE]; exact Hx.takeF_le (by omega) P14
      rw [← hE] at I15
      have E15 := hide hE
      clear hr hg hE I14
      go_wp2_with fail
      refine (refnum_any s _ t15 _ 3 _ hs1 P15 (by omega) (by omega) rfl (unhide I15).he.rd).mono ?_
      rintro e w16 ⟨rfl, hr, hg⟩
      have J16 := hide ((unhide I15).call hr hg)
      have hP := Hx.numF_le (s := s) (m := 3) (st := t15) P15
      obtain ⟨r, hE⟩ : ∃ t, t = Hx.numF s 3 t15 := ⟨_, rfl⟩
      rw [← hE] at J16 hP ⊢
      obtain ⟨v16, t16⟩ := r
      simp only at J16 hP ⊢
      have P16 : t16.pos ≤ s.size := hP
      have E16 := hide hE
      have xo : w16.cell? ⟨xb, 2, none⟩ = some (.int .i64 0) := blk_cell (unhide J16).xx 2
      have xf := blk_free (unhide J16).xx
      clear hr hg hE hP I15
      go_wp2_with fail
      have I16 : Hid (InT s w xb _ _ _ #[.int .i64 (v11 : Int), .int .i64 (v12 : Int), .int .i64 (v16 : Int), .int .i64 0, .bool false, .int .i64 0, .int .i64 0, .int .i64 (v14 : Int), .int .i64 (-1), .int .i64 (-1)] _ _) := (unhide J16).setx 2 (.int .i64 (v16 : Int))
      clear J16 xo xf
      refine (must_any s _ t16 _ 45 _ hs1 P16 rfl (by omega) (unhide I16).he.rd).mono ?_
      rintro e w17 ⟨rfl, hr, hg⟩
      have I17 := hide ((unhide I16).call hr hg)
      obtain ⟨t17, hE⟩ : ∃ t, t = Hx.takeF s 45 t16 := ⟨_, rfl⟩
      have P17 : t17.pos ≤ s.size := by rw [hE]; exact Hx.takeF_le (by omega) P16
      rw [← hE] at I17
      have E17 := hide hE
      clear hr hg hE I16
      go_wp2_with fail
      refine (refnum_any s _ t17 _ 3 _ hs1 P17 (by omega) (by omega) rfl (unhide I17).he.rd).mono ?_
      rintro e w18 ⟨rfl, hr, hg⟩
      have J18 := hide ((unhide I17).call hr hg)
      have hP := Hx.numF_le (s := s) (m := 3) (st := t17) P17
      obtain ⟨r, hE⟩ : ∃ t, t = Hx.numF s 3 t17 := ⟨_, rfl⟩
      rw [← hE] at J18 hP ⊢
      obtain ⟨v18, t18⟩ := r
      simp only at J18 hP ⊢
      have P18 : t18.pos ≤ s.size := hP
      have E18 := hide hE
      have xo : w18.cell? ⟨xb, 3, none⟩ = some (.int .i64 0) := blk_cell (unhide J18).xx 3
      have xf := blk_free (unhide J18).xx
      clear hr hg hE hP I17
      go_wp2_with fail
      have I18 : Hid (InT s w xb _ _ _ #[.int .i64 (v11 : Int), .int .i64 (v12 : Int), .int .i64 (v16 : Int), .int .i64 (v18 : Int), .bool false, .int .i64 0, .int .i64 0, .int .i64 (v14 : Int), .int .i64 (-1), .int .i64 (-1)] _ _) := (unhide J18).setx 3 (.int .i64 (v18 : Int))
      clear J18 xo xf
      by_cases hN19 : t18.bad = false ∧ Hx.byteAt s t18.pos = 60
      · obtain ⟨p19, b19⟩ := t18
        simp only at hN19 P18
        obtain ⟨rfl, hB⟩ := hN19
        have E19 := hide (Hx.nextF_yes hB)
        have P19 : (⟨p19 + 1, false⟩ : Hx.St).pos ≤ s.size := Hx.byteAt_in (by omega)
        have HBY := hide hB
        clear hB
        refine (next_yes s _ p19 _ 60 _ hs1 rfl (by omega) (unhide HBY) (unhide I18).he.rd).mono ?_
        rintro e w19 ⟨rfl, hr, hg⟩
        have J19 := hide ((unhide I18).call hr hg)
        clear hr hg I18 HBY
        have xo : w19.cell? ⟨xb, 4, none⟩ = some (.bool false) := blk_cell (unhide J19).xx 4
        have xf := blk_free (unhide J19).xx
        go_wp2_with fail
        have I19 : Hid (InT s w xb _ _ _ #[.int .i64 (v11 : Int), .int .i64 (v12 : Int), .int .i64 (v16 : Int), .int .i64 (v18 : Int), .bool true, .int .i64 0, .int .i64 0, .int .i64 (v14 : Int), .int .i64 (-1), .int .i64 (-1)] _ _) := (unhide J19).setx 4 (.bool true)
        clear J19 xo xf
        refine (one_any s _ ⟨p19 + 1, false⟩ 48 57 _ _ _ hs1 P19 rfl rfl (by omega) (unhide I19).he.rd).mono ?_
        rintro e w20 ⟨rfl, hr, hg⟩
        have J20 := hide ((unhide I19).call hr hg)
        have hP := Hx.oneF_le (s := s) (lo := 48) (hi := 57) (st := ⟨p19 + 1, false⟩) (by omega) P19
        obtain ⟨r, hE⟩ : ∃ t, t = Hx.oneF s 48 57 ⟨p19 + 1, false⟩ := ⟨_, rfl⟩
        rw [← hE] at J20 hP ⊢
        obtain ⟨v20, t20⟩ := r
        simp only at J20 hP ⊢
        have P20 : t20.pos ≤ s.size := hP
        have E20 := hide hE
        have xo : w20.cell? ⟨xb, 8, none⟩ = some (.int .i64 (-1)) := blk_cell (unhide J20).xx 8
        have xf := blk_free (unhide J20).xx
        clear hr hg hE hP I19
        go_wp2_with fail
        have I20 : Hid (InT s w xb _ _ _ #[.int .i64 (v11 : Int), .int .i64 (v12 : Int), .int .i64 (v16 : Int), .int .i64 (v18 : Int), .bool true, .int .i64 0, .int .i64 0, .int .i64 (v14 : Int), .int .i64 (v20 : Int), .int .i64 (-1)] _ _) := (unhide J20).setx 8 (.int .i64 (v20 : Int))
        clear J20 xo xf
        refine (must_any s _ t20 _ 58 _ hs1 P20 rfl (by omega) (unhide I20).he.rd).mono ?_
        rintro e w21 ⟨rfl, hr, hg⟩
        have I21 := hide ((unhide I20).call hr hg)
        obtain ⟨t21, hE⟩ : ∃ t, t = Hx.takeF s 58 t20 := ⟨_, rfl⟩
        have P21 : t21.pos ≤ s.size := by rw [hE]; exact Hx.takeF_le (by omega) P20
        rw [← hE] at I21
        have E21 := hide hE
        clear hr hg hE I20
        go_wp2_with fail
        refine (refnum_any s _ t21 _ 3 _ hs1 P21 (by omega) (by omega) rfl (unhide I21).he.rd).mono ?_
        rintro e w22 ⟨rfl, hr, hg⟩
        have J22 := hide ((unhide I21).call hr hg)
        have hP := Hx.numF_le (s := s) (m := 3) (st := t21) P21
        obtain ⟨r, hE⟩ : ∃ t, t = Hx.numF s 3 t21 := ⟨_, rfl⟩
        rw [← hE] at J22 hP ⊢
        obtain ⟨v22, t22⟩ := r
        simp only at J22 hP ⊢
        have P22 : t22.pos ≤ s.size := hP
        have E22 := hide hE
        have xo : w22.cell? ⟨xb, 5, none⟩ = some (.int .i64 0) := blk_cell (unhide J22).xx 5
        have xf := blk_free (unhide J22).xx
        clear hr hg hE hP I21
        go_wp2_with fail
        have I22 : Hid (InT s w xb _ _ _ #[.int .i64 (v11 : Int), .int .i64 (v12 : Int), .int .i64 (v16 : Int), .int .i64 (v18 : Int), .bool true, .int .i64 (v22 : Int), .int .i64 0, .int .i64 (v14 : Int), .int .i64 (v20 : Int), .int .i64 (-1)] _ _) := (unhide J22).setx 5 (.int .i64 (v22 : Int))
        clear J22 xo xf
        refine (must_any s _ t22 _ 45 _ hs1 P22 rfl (by omega) (unhide I22).he.rd).mono ?_
        rintro e w23 ⟨rfl, hr, hg⟩
        have I23 := hide ((unhide I22).call hr hg)
        obtain ⟨t23, hE⟩ : ∃ t, t = Hx.takeF s 45 t22 := ⟨_, rfl⟩
        have P23 : t23.pos ≤ s.size := by rw [hE]; exact Hx.takeF_le (by omega) P22
        rw [← hE] at I23
        have E23 := hide hE
        clear hr hg hE I22
        go_wp2_with fail
        refine (refnum_any s _ t23 _ 3 _ hs1 P23 (by omega) (by omega) rfl (unhide I23).he.rd).mono ?_
        rintro e w24 ⟨rfl, hr, hg⟩
        have J24 := hide ((unhide I23).call hr hg)
        have hP := Hx.numF_le (s := s) (m := 3) (st := t23) P23
        obtain ⟨r, hE⟩ : ∃ t, t = Hx.numF s 3 t23 := ⟨_, rfl⟩
        rw [← hE] at J24 hP ⊢
        obtain ⟨v24, t24⟩ := r
        simp only at J24 hP ⊢
        have P24 : t24.pos ≤ s.size := hP
        have E24 := hide hE
        have xo : w24.cell? ⟨xb, 6, none⟩ = some (.int .i64 0) := blk_cell (unhide J24).xx 6
        have xf := blk_free (unhide J24).xx
        clear hr hg hE hP I23
        go_wp2_with fail
        have I24 : Hid (InT s w xb _ _ _ #[.int .i64 (v11 : Int), .int .i64 (v12 : Int), .int .i64 (v16 : Int), .int .i64 (v18 : Int), .bool true, .int .i64 (v22 : Int), .int .i64 (v24 : Int), .int .i64 (v14 : Int), .int .i64 (v20 : Int), .int .i64 (-1)] _ _) := (unhide J24).setx 6 (.int .i64 (v24 : Int))
        clear J24 xo xf
        by_cases hN25 : t24.bad = false ∧ Hx.byteAt s t24.pos = 62
        · obtain ⟨p25, b25⟩ := t24
          simp only at hN25 P24
          obtain ⟨rfl, hB⟩ := hN25
          have E25 := hide (Hx.nextF_yes hB)
          have P25 : (⟨p25 + 1, false⟩ : Hx.St).pos ≤ s.size := Hx.byteAt_in (by omega)
          have HBY := hide hB
          clear hB
          refine (next_yes s _ p25 _ 62 _ hs1 rfl (by omega) (unhide HBY) (unhide I24).he.rd).mono ?_
          rintro e w25 ⟨rfl, hr, hg⟩
          have I25 := hide ((unhide I24).call hr hg)
          clear hr hg I24
          go_wp2_with fail
          refine (one_any s _ ⟨p25 + 1, false⟩ 48 57 _ _ _ hs1 P25 rfl rfl (by omega) (unhide I25).he.rd).mono ?_
          rintro e w26 ⟨rfl, hr, hg⟩
          have J26 := hide ((unhide I25).call hr hg)
          have hP := Hx.oneF_le (s := s) (lo := 48) (hi := 57) (st := ⟨p25 + 1, false⟩) (by omega) P25
          obtain ⟨r, hE⟩ : ∃ t, t = Hx.oneF s 48 57 ⟨p25 + 1, false⟩ := ⟨_, rfl⟩
          rw [← hE] at J26 hP ⊢
          obtain ⟨v26, t26⟩ := r
          simp only at J26 hP ⊢
          have P26 : t26.pos ≤ s.size := hP
          have E26 := hide hE
          have xo : w26.cell? ⟨xb, 9, none⟩ = some (.int .i64 (-1)) := blk_cell (unhide J26).xx 9
          have xf := blk_free (unhide J26).xx
          clear hr hg hE hP I25
          go_upto_region 26 with fail
          have I26 : Hid (InT s w xb _ _ _ #[.int .i64 (v11 : Int), .int .i64 (v12 : Int), .int .i64 (v16 : Int), .int .i64 (v18 : Int), .bool true, .int .i64 (v22 : Int), .int .i64 (v24 : Int), .int .i64 (v14 : Int), .int .i64 (v20 : Int), .int .i64 (v26 : Int)] _ _) := (unhide J26).setx 9 (.int .i64 (v26 : Int))
          clear J26 xo xf
          generalize w26.setCell ⟨xb, 9, none⟩ (.int .i64 (v26 : Int)) = w80 at I26 ⊢
          have hT : Hx.tstepF s ⟨pos, false⟩ = (⟨v11, v12, v16, v18, true, v22, v24, v14, (v20 : Int), (v26 : Int)⟩, t26) := by simp [Hx.tstepF, Hx.trestF, Hx.tintoF, ← unhide E10, ← unhide E11, ← unhide E12, ← unhide E13, ← unhide E14, ← unhide E15, ← unhide E16, ← unhide E17, ← unhide E18, unhide E19, ← unhide E20, ← unhide E21, ← unhide E22, ← unhide E23, ← unhide E24, unhide E25, ← unhide E26]
          have HFIN3 : Hid (Hx.tablesF s t26 (acc ++ [⟨v11, v12, v16, v18, true, v22, v24, v14, (v20 : Int), (v26 : Int)⟩]) = Hx.tableF s) := by
            have h := unhide HFIN2
            rw [hT] at h
            exact h
          have hMT : Hx.mT s t26 < Hx.mT s ⟨pos, false⟩ := by have h := unhide HMT; rw [hT] at h; exact h
          have hGT : (t26 : Hx.St).bad = false → pos < (t26 : Hx.St).pos := by have h := unhide HGT; rw [hT] at h; exact h
          have HMT2 := hide hMT
          have HGT2 := hide hGT
          clear hT hMT hGT HFIN2
          have l3 : w80.cell? ⟨w.heap.size + 1 + 1, 3, none⟩ = some (.slice ao acc.length cap) := blk_cell (unhide I26).he.lo 3
          have x0 : w80.cell? ⟨xb, 0, none⟩ = some (.int .i64 (v11 : Int)) := blk_cell (unhide I26).xx 0
          have x1 : w80.cell? ⟨xb, 1, none⟩ = some (.int .i64 (v12 : Int)) := blk_cell (unhide I26).xx 1
          have x2 : w80.cell? ⟨xb, 2, none⟩ = some (.int .i64 (v16 : Int)) := blk_cell (unhide I26).xx 2
          have x3 : w80.cell? ⟨xb, 3, none⟩ = some (.int .i64 (v18 : Int)) := blk_cell (unhide I26).xx 3
          have x4 : w80.cell? ⟨xb, 4, none⟩ = some (.bool true) := blk_cell (unhide I26).xx 4
          have x5 : w80.cell? ⟨xb, 5, none⟩ = some (.int .i64 (v22 : Int)) := blk_cell (unhide I26).xx 5
          have x6 : w80.cell? ⟨xb, 6, none⟩ = some (.int .i64 (v24 : Int)) := blk_cell (unhide I26).xx 6
          have x7 : w80.cell? ⟨xb, 7, none⟩ = some (.int .i64 (v14 : Int)) := blk_cell (unhide I26).xx 7
          have x8 : w80.cell? ⟨xb, 8, none⟩ = some (.int .i64 (v20 : Int)) := blk_cell (unhide I26).xx 8
          have x9 : w80.cell? ⟨xb, 9, none⟩ = some (.int .i64 (v26 : Int)) := blk_cell (unhide I26).xx 9
          have hszw : w.heap.size + 3 ≤ w80.heap.size := lt_of_block (unhide I26).he.lo
          go_wp2_with (at_builtin; refine wpList_append_own _ rfl _ _ 47 rfl (w.heap.size + 3) 53 i0 (.agg #[.int .i64 0, .int .i64 0, .int .i64 0, .int .i64 0, .bool false, .int .i64 0, .int .i64 0, .int .i64 0, .int .i64 0, .int .i64 0]) 10 80 Tryz.underlying47 (unhide HI) (unhide HZ0) (unhide HZ1) (unhide HZ2) rfl (by decide) _ _ _ rfl ((unhide I26).ow.alloc _) ⟨w80.heap.size, 0, none⟩ 1 1 (tsCells ⟨v11, v12, v16, v18, true, v22, v24, v14, (v20 : Int), (v26 : Int)⟩) rfl rfl (news_new w80 (tsCells ⟨v11, v12, v16, v18, true, v22, v24, v14, (v20 : Int), (v26 : Int)⟩) 53) (tsCells_one _) (by unfold maxLen; omega) (by omega) (by simp; omega) ?_; intro v' w90 hown' hgrow' _; obtain ⟨ao3, cap3, rfl⟩ := own_form hown'; have K9 := hide ((unhide I26).app (o := .cells (tsCells ⟨v11, v12, v16, v18, true, v22, v24, v14, (v20 : Int), (v26 : Int)⟩).toArray 53) hown' hgrow'); clear hown' hgrow'; have l3' : w90.cell? ⟨w.heap.size + 1 + 1, 3, none⟩ = some (.slice ao acc.length cap) := blk_cell (unhide K9).1.lo 3; have lf' := blk_free (unhide K9).1.lo 3)
          go_roundg (Hx.mT s t26)
          case measure => exact unhide HMT2
          case rel =>
            refine ⟨t26, acc ++ [⟨v11, v12, v16, v18, true, v22, v24, v14, (v20 : Int), (v26 : Int)⟩], _, P26, rfl, by rw [List.length_append]; show acc.length + 1 ≤ s.size + 1; omega, fun hb => ?_, (unhide K9).1.store 3 _, (unhide K9).2.kept (grown_set _ _ _ _) (own_ne (unhide K9).2 (by omega)), unhide HFIN3⟩
            have := unhide HGT2 hb
            rw [List.length_append]; show acc.length + 1 ≤ _; omega
        · have HN : Hid (t24.bad = true ∨ Hx.byteAt s t24.pos ≠ 62) := by
            cases hb : t24.bad
            · exact Or.inr (fun e => hN25 ⟨hb, e⟩)
            · exact Or.inl rfl
          have E25 := hide (Hx.nextF_no hN25)
          clear hN25
          refine (next_no s _ t24 _ 62 _ hs1 P24 rfl (by omega) (unhide HN) (unhide I24).he.rd).mono ?_
          rintro e w25 ⟨rfl, hr, hg⟩
          have I25 := hide ((unhide I24).call hr hg)
          clear hr hg I24
          go_upto_region 26 with fail
          have hT : Hx.tstepF s ⟨pos, false⟩ = (⟨v11, v12, v16, v18, true, v22, v24, v14, (v20 : Int), -1⟩, t24) := by simp [Hx.tstepF, Hx.trestF, Hx.tintoF, ← unhide E10, ← unhide E11, ← unhide E12, ← unhide E13, ← unhide E14, ← unhide E15, ← unhide E16, ← unhide E17, ← unhide E18, unhide E19, ← unhide E20, ← unhide E21, ← unhide E22, ← unhide E23, ← unhide E24, unhide E25]
          have HFIN3 : Hid (Hx.tablesF s t24 (acc ++ [⟨v11, v12, v16, v18, true, v22, v24, v14, (v20 : Int), -1⟩]) = Hx.tableF s) := by
            have h := unhide HFIN2
            rw [hT] at h
            exact h
          have hMT : Hx.mT s t24 < Hx.mT s ⟨pos, false⟩ := by have h := unhide HMT; rw [hT] at h; exact h
          have hGT : (t24 : Hx.St).bad = false → pos < (t24 : Hx.St).pos := by have h := unhide HGT; rw [hT] at h; exact h
          have HMT2 := hide hMT
          have HGT2 := hide hGT
          clear hT hMT hGT HFIN2
          have l3 : w25.cell? ⟨w.heap.size + 1 + 1, 3, none⟩ = some (.slice ao acc.length cap) := blk_cell (unhide I25).he.lo 3
          have x0 : w25.cell? ⟨xb, 0, none⟩ = some (.int .i64 (v11 : Int)) := blk_cell (unhide I25).xx 0
          have x1 : w25.cell? ⟨xb, 1, none⟩ = some (.int .i64 (v12 : Int)) := blk_cell (unhide I25).xx 1
          have x2 : w25.cell? ⟨xb, 2, none⟩ = some (.int .i64 (v16 : Int)) := blk_cell (unhide I25).xx 2
          have x3 : w25.cell? ⟨xb, 3, none⟩ = some (.int .i64 (v18 : Int)) := blk_cell (unhide I25).xx 3
          have x4 : w25.cell? ⟨xb, 4, none⟩ = some (.bool true) := blk_cell (unhide I25).xx 4
          have x5 : w25.cell? ⟨xb, 5, none⟩ = some (.int .i64 (v22 : Int)) := blk_cell (unhide I25).xx 5
          have x6 : w25.cell? ⟨xb, 6, none⟩ = some (.int .i64 (v24 : Int)) := blk_cell (unhide I25).xx 6
          have x7 : w25.cell? ⟨xb, 7, none⟩ = some (.int .i64 (v14 : Int)) := blk_cell (unhide I25).xx 7
          have x8 : w25.cell? ⟨xb, 8, none⟩ = some (.int .i64 (v20 : Int)) := blk_cell (unhide I25).xx 8
          have x9 : w25.cell? ⟨xb, 9, none⟩ = some (.int .i64 (-1)) := blk_cell (unhide I25).xx 9
          have hszw : w.heap.size + 3 ≤ w25.heap.size := lt_of_block (unhide I25).he.lo
          go_wp2_with (at_builtin; refine wpList_append_own _ rfl _ _ 47 rfl (w.heap.size + 3) 53 i0 (.agg #[.int .i64 0, .int .i64 0, .int .i64 0, .int .i64 0, .bool false, .int .i64 0, .int .i64 0, .int .i64 0, .int .i64 0, .int .i64 0]) 10 80 Tryz.underlying47 (unhide HI) (unhide HZ0) (unhide HZ1) (unhide HZ2) rfl (by decide) _ _ _ rfl ((unhide I25).ow.alloc _) ⟨w25.heap.size, 0, none⟩ 1 1 (tsCells ⟨v11, v12, v16, v18, true, v22, v24, v14, (v20 : Int), -1⟩) rfl rfl (news_new w25 (tsCells ⟨v11, v12, v16, v18, true, v22, v24, v14, (v20 : Int), -1⟩) 53) (tsCells_one _) (by unfold maxLen; omega) (by omega) (by simp; omega) ?_; intro v' w90 hown' hgrow' _; obtain ⟨ao3, cap3, rfl⟩ := own_form hown'; have K9 := hide ((unhide I25).app (o := .cells (tsCells ⟨v11, v12, v16, v18, true, v22, v24, v14, (v20 : Int), -1⟩).toArray 53) hown' hgrow'); clear hown' hgrow'; have l3' : w90.cell? ⟨w.heap.size + 1 + 1, 3, none⟩ = some (.slice ao acc.length cap) := blk_cell (unhide K9).1.lo 3; have lf' := blk_free (unhide K9).1.lo 3)
          go_roundg (Hx.mT s t24)
          case measure => exact unhide HMT2
          case rel =>
            refine ⟨t24, acc ++ [⟨v11, v12, v16, v18, true, v22, v24, v14, (v20 : Int), -1⟩], _, P24, rfl, by rw [List.length_append]; show acc.length + 1 ≤ s.size + 1; omega, fun hb => ?_, (unhide K9).1.store 3 _, (unhide K9).2.kept (grown_set _ _ _ _) (own_ne (unhide K9).2 (by omega)), unhide HFIN3⟩
            have := unhide HGT2 hb
            rw [List.length_append]; show acc.length + 1 ≤ _; omega
      · have HN : Hid (t18.bad = true ∨ Hx.byteAt s t18.pos ≠ 60) := by
          cases hb : t18.bad
          · exact Or.inr (fun e => hN19 ⟨hb, e⟩)
          · exact Or.inl rfl
        have E19 := hide (Hx.nextF_no hN19)
        clear hN19
        refine (next_no s _ t18 _ 60 _ hs1 P18 rfl (by omega) (unhide HN) (unhide I18).he.rd).mono ?_
        rintro e w19 ⟨rfl, hr, hg⟩
        have J19 := hide ((unhide I18).call hr hg)
        clear hr hg I18 HN
        have xo : w19.cell? ⟨xb, 4, none⟩ = some (.bool false) := blk_cell (unhide J19).xx 4
        have xf := blk_free (unhide J19).xx
        go_wp2_with fail
        have I19 : Hid (InT s w xb _ _ _ #[.int .i64 (v11 : Int), .int .i64 (v12 : Int), .int .i64 (v16 : Int), .int .i64 (v18 : Int), .bool false, .int .i64 0, .int .i64 0, .int .i64 (v14 : Int), .int .i64 (-1), .int .i64 (-1)] _ _) := (unhide J19).setx 4 (.bool false)
        clear J19 xo xf
        by_cases hN27 : t18.bad = false ∧ Hx.byteAt s t18.pos = 62
        · obtain ⟨p27, b27⟩ := t18
          simp only at hN27 P18
          obtain ⟨rfl, hB⟩ := hN27
          have E27 := hide (Hx.nextF_yes hB)
          have P27 : (⟨p27 + 1, false⟩ : Hx.St).pos ≤ s.size := Hx.byteAt_in (by omega)
          have HBY := hide hB
          clear hB
          refine (next_yes s _ p27 _ 62 _ hs1 rfl (by omega) (unhide HBY) (unhide I19).he.rd).mono ?_
          rintro e w27 ⟨rfl, hr, hg⟩
          have I27 := hide ((unhide I19).call hr hg)
          clear hr hg I19
          go_wp2_with fail
          refine (one_any s _ ⟨p27 + 1, false⟩ 48 57 _ _ _ hs1 P27 rfl rfl (by omega) (unhide I27).he.rd).mono ?_
          rintro e w28 ⟨rfl, hr, hg⟩
          have J28 := hide ((unhide I27).call hr hg)
          have hP := Hx.oneF_le (s := s) (lo := 48) (hi := 57) (st := ⟨p27 + 1, false⟩) (by omega) P27
          obtain ⟨r, hE⟩ : ∃ t, t = Hx.oneF s 48 57 ⟨p27 + 1, false⟩ := ⟨_, rfl⟩
          rw [← hE] at J28 hP ⊢
          obtain ⟨v28, t28⟩ := r
          simp only at J28 hP ⊢
          have P28 : t28.pos ≤ s.size := hP
          have E28 := hide hE
          have xo : w28.cell? ⟨xb, 9, none⟩ = some (.int .i64 (-1)) := blk_cell (unhide J28).xx 9
          have xf := blk_free (unhide J28).xx
          clear hr hg hE hP I27
          go_upto_region 26 with fail
          have I28 : Hid (InT s w xb _ _ _ #[.int .i64 (v11 : Int), .int .i64 (v12 : Int), .int .i64 (v16 : Int), .int .i64 (v18 : Int), .bool false, .int .i64 0, .int .i64 0, .int .i64 (v14 : Int), .int .i64 (-1), .int .i64 (v28 : Int)] _ _) := (unhide J28).setx 9 (.int .i64 (v28 : Int))
          clear J28 xo xf
          generalize w28.setCell ⟨xb, 9, none⟩ (.int .i64 (v28 : Int)) = w80 at I28 ⊢
          have hT : Hx.tstepF s ⟨pos, false⟩ = (⟨v11, v12, v16, v18, false, 0, 0, v14, -1, (v28 : Int)⟩, t28) := by simp [Hx.tstepF, Hx.trestF, Hx.tintoF, ← unhide E10, ← unhide E11, ← unhide E12, ← unhide E13, ← unhide E14, ← unhide E15, ← unhide E16, ← unhide E17, ← unhide E18, unhide E19, unhide E27, ← unhide E28]
          have HFIN3 : Hid (Hx.tablesF s t28 (acc ++ [⟨v11, v12, v16, v18, false, 0, 0, v14, -1, (v28 : Int)⟩]) = Hx.tableF s) := by
            have h := unhide HFIN2
            rw [hT] at h
            exact h
          have hMT : Hx.mT s t28 < Hx.mT s ⟨pos, false⟩ := by have h := unhide HMT; rw [hT] at h; exact h
          have hGT : (t28 : Hx.St).bad = false → pos < (t28 : Hx.St).pos := by have h := unhide HGT; rw [hT] at h; exact h
          have HMT2 := hide hMT
          have HGT2 := hide hGT
          clear hT hMT hGT HFIN2
          have l3 : w80.cell? ⟨w.heap.size + 1 + 1, 3, none⟩ = some (.slice ao acc.length cap) := blk_cell (unhide I28).he.lo 3
          have x0 : w80.cell? ⟨xb, 0, none⟩ = some (.int .i64 (v11 : Int)) := blk_cell (unhide I28).xx 0
          have x1 : w80.cell? ⟨xb, 1, none⟩ = some (.int .i64 (v12 : Int)) := blk_cell (unhide I28).xx 1
          have x2 : w80.cell? ⟨xb, 2, none⟩ = some (.int .i64 (v16 : Int)) := blk_cell (unhide I28).xx 2
          have x3 : w80.cell? ⟨xb, 3, none⟩ = some (.int .i64 (v18 : Int)) := blk_cell (unhide I28).xx 3
          have x4 : w80.cell? ⟨xb, 4, none⟩ = some (.bool false) := blk_cell (unhide I28).xx 4
          have x5 : w80.cell? ⟨xb, 5, none⟩ = some (.int .i64 0) := blk_cell (unhide I28).xx 5
          have x6 : w80.cell? ⟨xb, 6, none⟩ = some (.int .i64 0) := blk_cell (unhide I28).xx 6
          have x7 : w80.cell? ⟨xb, 7, none⟩ = some (.int .i64 (v14 : Int)) := blk_cell (unhide I28).xx 7
          have x8 : w80.cell? ⟨xb, 8, none⟩ = some (.int .i64 (-1)) := blk_cell (unhide I28).xx 8
          have x9 : w80.cell? ⟨xb, 9, none⟩ = some (.int .i64 (v28 : Int)) := blk_cell (unhide I28).xx 9
          have hszw : w.heap.size + 3 ≤ w80.heap.size := lt_of_block (unhide I28).he.lo
          go_wp2_with (at_builtin; refine wpList_append_own _ rfl _ _ 47 rfl (w.heap.size + 3) 53 i0 (.agg #[.int .i64 0, .int .i64 0, .int .i64 0, .int .i64 0, .bool false, .int .i64 0, .int .i64 0, .int .i64 0, .int .i64 0, .int .i64 0]) 10 80 Tryz.underlying47 (unhide HI) (unhide HZ0) (unhide HZ1) (unhide HZ2) rfl (by decide) _ _ _ rfl ((unhide I28).ow.alloc _) ⟨w80.heap.size, 0, none⟩ 1 1 (tsCells ⟨v11, v12, v16, v18, false, 0, 0, v14, -1, (v28 : Int)⟩) rfl rfl (news_new w80 (tsCells ⟨v11, v12, v16, v18, false, 0, 0, v14, -1, (v28 : Int)⟩) 53) (tsCells_one _) (by unfold maxLen; omega) (by omega) (by simp; omega) ?_; intro v' w90 hown' hgrow' _; obtain ⟨ao3, cap3, rfl⟩ := own_form hown'; have K9 := hide ((unhide I28).app (o := .cells (tsCells ⟨v11, v12, v16, v18, false, 0, 0, v14, -1, (v28 : Int)⟩).toArray 53) hown' hgrow'); clear hown' hgrow'; have l3' : w90.cell? ⟨w.heap.size + 1 + 1, 3, none⟩ = some (.slice ao acc.length cap) := blk_cell (unhide K9).1.lo 3; have lf' := blk_free (unhide K9).1.lo 3)
          go_roundg (Hx.mT s t28)
          case measure => exact unhide HMT2
          case rel =>
            refine ⟨t28, acc ++ [⟨v11, v12, v16, v18, false, 0, 0, v14, -1, (v28 : Int)⟩], _, P28, rfl, by rw [List.length_append]; show acc.length + 1 ≤ s.size + 1; omega, fun hb => ?_, (unhide K9).1.store 3 _, (unhide K9).2.kept (grown_set _ _ _ _) (own_ne (unhide K9).2 (by omega)), unhide HFIN3⟩
            have := unhide HGT2 hb
            rw [List.length_append]; show acc.length + 1 ≤ _; omega
        · have HN : Hid (t18.bad = true ∨ Hx.byteAt s t18.pos ≠ 62) := by
            cases hb : t18.bad
            · exact Or.inr (fun e => hN27 ⟨hb, e⟩)
            · exact Or.inl rfl
          have E27 := hide (Hx.nextF_no hN27)
          clear hN27
          refine (next_no s _ t18 _ 62 _ hs1 P18 rfl (by omega) (unhide HN) (unhide I19).he.rd).mono ?_
          rintro e w27 ⟨rfl, hr, hg⟩
          have I27 := hide ((unhide I19).call hr hg)
          clear hr hg I19
          go_upto_region 26 with fail
          have hT : Hx.tstepF s ⟨pos, false⟩ = (⟨v11, v12, v16, v18, false, 0, 0, v14, -1, -1⟩, t18) := by simp [Hx.tstepF, Hx.trestF, Hx.tintoF, ← unhide E10, ← unhide E11, ← unhide E12, ← unhide E13, ← unhide E14, ← unhide E15, ← unhide E16, ← unhide E17, ← unhide E18, unhide E19, unhide E27]
          have HFIN3 : Hid (Hx.tablesF s t18 (acc ++ [⟨v11, v12, v16, v18, false, 0, 0, v14, -1, -1⟩]) = Hx.tableF s) := by
            have h := unhide HFIN2
            rw [hT] at h
            exact h
          have hMT : Hx.mT s t18 < Hx.mT s ⟨pos, false⟩ := by have h := unhide HMT; rw [hT] at h; exact h
          have hGT : (t18 : Hx.St).bad = false → pos < (t18 : Hx.St).pos := by have h := unhide HGT; rw [hT] at h; exact h
          have HMT2 := hide hMT
          have HGT2 := hide hGT
          clear hT hMT hGT HFIN2
          have l3 : w27.cell? ⟨w.heap.size + 1 + 1, 3, none⟩ = some (.slice ao acc.length cap) := blk_cell (unhide I27).he.lo 3
          have x0 : w27.cell? ⟨xb, 0, none⟩ = some (.int .i64 (v11 : Int)) := blk_cell (unhide I27).xx 0
          have x1 : w27.cell? ⟨xb, 1, none⟩ = some (.int .i64 (v12 : Int)) := blk_cell (unhide I27).xx 1
          have x2 : w27.cell? ⟨xb, 2, none⟩ = some (.int .i64 (v16 : Int)) := blk_cell (unhide I27).xx 2
          have x3 : w27.cell? ⟨xb, 3, none⟩ = some (.int .i64 (v18 : Int)) := blk_cell (unhide I27).xx 3
          have x4 : w27.cell? ⟨xb, 4, none⟩ = some (.bool false) := blk_cell (unhide I27).xx 4
          have x5 : w27.cell? ⟨xb, 5, none⟩ = some (.int .i64 0) := blk_cell (unhide I27).xx 5
          have x6 : w27.cell? ⟨xb, 6, none⟩ = some (.int .i64 0) := blk_cell (unhide I27).xx 6
          have x7 : w27.cell? ⟨xb, 7, none⟩ = some (.int .i64 (v14 : Int)) := blk_cell (unhide I27).xx 7
          have x8 : w27.cell? ⟨xb, 8, none⟩ = some (.int .i64 (-1)) := blk_cell (unhide I27).xx 8
          have x9 : w27.cell? ⟨xb, 9, none⟩ = some (.int .i64 (-1)) := blk_cell (unhide I27).xx 9
          have hszw : w.heap.size + 3 ≤ w27.heap.size := lt_of_block (unhide I27).he.lo
          go_wp2_with (at_builtin; refine wpList_append_own _ rfl _ _ 47 rfl (w.heap.size + 3) 53 i0 (.agg #[.int .i64 0, .int .i64 0, .int .i64 0, .int .i64 0, .bool false, .int .i64 0, .int .i64 0, .int .i64 0, .int .i64 0, .int .i64 0]) 10 80 Tryz.underlying47 (unhide HI) (unhide HZ0) (unhide HZ1) (unhide HZ2) rfl (by decide) _ _ _ rfl ((unhide I27).ow.alloc _) ⟨w27.heap.size, 0, none⟩ 1 1 (tsCells ⟨v11, v12, v16, v18, false, 0, 0, v14, -1, -1⟩) rfl rfl (news_new w27 (tsCells ⟨v11, v12, v16, v18, false, 0, 0, v14, -1, -1⟩) 53) (tsCells_one _) (by unfold maxLen; omega) (by omega) (by simp; omega) ?_; intro v' w90 hown' hgrow' _; obtain ⟨ao3, cap3, rfl⟩ := own_form hown'; have K9 := hide ((unhide I27).app (o := .cells (tsCells ⟨v11, v12, v16, v18, false, 0, 0, v14, -1, -1⟩).toArray 53) hown' hgrow'); clear hown' hgrow'; have l3' : w90.cell? ⟨w.heap.size + 1 + 1, 3, none⟩ = some (.slice ao acc.length cap) := blk_cell (unhide K9).1.lo 3; have lf' := blk_free (unhide K9).1.lo 3)
          go_roundg (Hx.mT s t18)
          case measure => exact unhide HMT2
          case rel =>
            refine ⟨t18, acc ++ [⟨v11, v12, v16, v18, false, 0, 0, v14, -1, -1⟩], _, P18, rfl, by rw [List.length_append]; show acc.length + 1 ≤ s.size + 1; omega, fun hb => ?_, (unhide K9).1.store 3 _, (unhide K9).2.kept (grown_set _ _ _ _) (own_ne (unhide K9).2 (by omega)), unhide HFIN3⟩
            have := unhide HGT2 hb
            rw [List.length_append]; show acc.length + 1 ≤ _; omega
    · have HEND := hide ((Hx.tablesF_end (acc := acc) hgo).symm.trans (unhide HFIN))
      have l0 : wr.cell? ⟨w.heap.size + 1 + 1, 0, none⟩ = some (.int .i64 ((Hx.theadF s).1 : Int)) := blk_cell (unhide HHE).lo 0
      have l1 : wr.cell? ⟨w.heap.size + 1 + 1, 1, none⟩ = some (.int .i64 0) := blk_cell (unhide HHE).lo 1
      have l2 : wr.cell? ⟨w.heap.size + 1 + 1, 2, none⟩ = some (.int .i64 0) := blk_cell (unhide HHE).lo 2
      have l3 : wr.cell? ⟨w.heap.size + 1 + 1, 3, none⟩ = some (.slice ao acc.length cap) := blk_cell (unhide HHE).lo 3
      have l4 : wr.cell? ⟨w.heap.size + 1 + 1, 4, none⟩ = some (.int .i64 0) := blk_cell (unhide HHE).lo 4
      have e0 : wr.cell? ⟨w.heap.size, 0, none⟩ = some (.int .i64 0) := blk_cell (unhide HHE).re 0
      have e1 : wr.cell? ⟨w.heap.size, 1, none⟩ = some (.int .i64 0) := blk_cell (unhide HHE).re 1
      have e2 : wr.cell? ⟨w.heap.size, 2, none⟩ = some (.int .i64 0) := blk_cell (unhide HHE).re 2
      have e3 : wr.cell? ⟨w.heap.size, 3, none⟩ = some (.slice none 0 0) := blk_cell (unhide HHE).re 3
      have e4 : wr.cell? ⟨w.heap.size, 4, none⟩ = some (.int .i64 0) := blk_cell (unhide HHE).re 4
      have ef := blk_free (unhide HHE).re
      obtain ⟨pos, bad⟩ := st
      simp only at hgo c1 c2 hpos hacc2
      cases bad
      · have hge : ¬ (pos : Int) < (s.size : Int) := by simp at hgo; omega
        clear hgo HFIN
        go_wp2_with fail
        refine bodyPost_ret (v := .tuple #[.agg #[.int .i64 ((Hx.theadF s).1 : Int), .int .i64 0, .int .i64 0, .slice ao acc.length cap, .int .i64 0], .int .i64 (-1)]) (by simp [results, Tryz.results27, go_sem, e0, e1, e2, e3, e4]) rfl ?_
        have hle := Nat.le_refl w.heap.size
        have hlt3 : w.heap.size < w.heap.size + 3 := by omega
        refine ⟨(((((unhide HHE).be.setCell hle _).setCell hle _).setCell hle _).setCell hle _).setCell hle _, Or.inr ?_⟩
        rw [← unhide HEND]
        refine ⟨rfl, _, rfl, ?_, by show acc.length ≤ 1001; omega⟩
        have k1 := (unhide HOWN).kept (grown_set wr w.heap.size 0 (.int .i64 ((Hx.theadF s).1 : Int))) (own_ne (unhide HOWN) hlt3)
        have k2 := k1.kept (grown_set _ w.heap.size 1 (.int .i64 0)) (own_ne k1 hlt3)
        have k3 := k2.kept (grown_set _ w.heap.size 2 (.int .i64 0)) (own_ne k2 hlt3)
        have k4 := k3.kept (grown_set _ w.heap.size 3 (.slice ao acc.length cap)) (own_ne k3 hlt3)
        have k5 := k4.kept (grown_set _ w.heap.size 4 (.int .i64 0)) (own_ne k4 hlt3)
        exact own_mono k5 (by omega)
      · clear hgo HFIN
        go_wp2_with fail
        go_region
        all_goals
          go_wp2_with fail
          refine bodyPost_ret (v := .tuple #[.agg #[.int .i64 ((Hx.theadF s).1 : Int), .int .i64 0, .int .i64 0, .slice ao acc.length cap, .int .i64 0], .int .i64 (pos : Int)]) (by simp [results, Tryz.results27, go_sem, e0, e1, e2, e3, e4]) rfl ?_
          have hle := Nat.le_refl w.heap.size
          refine ⟨?_, Or.inl ?_⟩
          · first
              | exact ((((((unhide HHE).be.setCell hle _).setCell hle _).setCell hle _).setCell hle _).setCell hle _).drew
              | exact (((((unhide HHE).be.drew.setCell hle _).setCell hle _).setCell hle _).setCell hle _).setCell hle _
          · rw [← unhide HEND]
            exact ⟨rfl, _, _, _, rfl⟩

end Go.Proofs.YtppcnlkhdgmaiabGreatDoor
