/- What entries reads of a text: the entries of a table. -/
import Derived.Test.YtppcnlkhdgmaiaaDoorCScB
import Derived.Test.YtppcnlkhdgmaiaaDoorCScN
import Derived.Test.YtppcnlkhdgmaiaaDoorCPf
import Derived.Test.YtppcnlkhdgmaiaaDoorCPlA
namespace Go.Proofs.YtppcnlkhdgmaiaaDoor
open Go.RowKit

/-- An entry: nine cells. -/
def entCells (y : Hx.Ent) : List Value := [.int .i64 (y.pl : Int), .int .i64 (y.no : Int), .int .i64 (y.t : Int), .int .i64 (y.lo : Int), .int .i64 (y.hi : Int), .int .i64 y.out, .int .i64 (y.mn : Int), .int .i64 (y.mx : Int), .int .i64 y.inn]
def entsCells (l : List Hx.Ent) : List Value := l.flatMap entCells
theorem entsCells_snoc (l : List Hx.Ent) (y : Hx.Ent) : entsCells (l ++ [y]) = entsCells l ++ entCells y := by simp [entsCells]
theorem entCells_one (y : Hx.Ent) : ∀ u ∈ entCells y, u.oneCell' = true := by
  intro u hu
  simp [entCells] at hu
  rcases hu with rfl | rfl | rfl | rfl | rfl | rfl | rfl | rfl | rfl <;> rfl
theorem Tryd.infoEnt : (Tryd.prog.info? 55).map (fun i => (i.zero, i.size, i.bytes)) = some (some (.agg #[.int .i64 0, .int .i64 0, .int .i64 0, .int .i64 0, .int .i64 0, .int .i64 0, .int .i64 0, .int .i64 0, .int .i64 0]), 9, 72) := by kernel_rfl

/-- What lies in memory while entries reads, with an entry under way in block xb. -/
structure InE (s : ByteArray) (w : World) (xb : Nat) (w' : World) (st : Hx.St) (xa : Array Value) (v : Value) (l : List Hx.Ent) : Prop where
  rd : Rd 95 s w.heap.size st w'
  be : Below w.heap.size w w'
  xx : w'.heap[xb]? = some (.cells xa 55 (0, 0))
  ow : w'.ownsRow (w.heap.size + 1) 55 9 v l.length (entsCells l)
  ap : v.ownBlock ≠ some xb
  ge : w.heap.size + 1 ≤ xb
theorem InE.call {s w xb w' w'' st st' xa v l} (h : InE s w xb w' st xa v l) (hr : Rd 95 s w.heap.size st' w'') (hg : w'.grownBy w'' (some w.heap.size)) : InE s w xb w'' st' xa v l :=
  ⟨hr, h.be.grown hg h.be.size (by simp), blk_kept h.xx hg (by have := h.ge; simp; omega), h.ow.kept hg (own_ne h.ow (by omega)), h.ap, h.ge⟩
theorem InE.setx {s w xb w' st xa v l} (h : InE s w xb w' st xa v l) (o : Nat) (u : Value) : InE s w xb (w'.setCell ⟨xb, o, none⟩ u) st (xa.setIfInBounds o u) v l :=
  ⟨h.rd.set_other (by have := h.ge; omega) _ _, h.be.setCell (by have := h.ge; show _ ≤ xb; omega) _, blk_set h.xx _ _, h.ow.kept (grown_set w' xb o u) (Or.inr h.ap), h.ap, h.ge⟩
theorem InE.app {s w xb w' w'' st xa v v' l y o} (h : InE s w xb w' st xa v l) (ho : w''.ownsRow (w.heap.size + 1) 55 9 v' (l.length + 1) (entsCells l ++ entCells y)) (hg : (w'.alloc o).grownBy w'' v.ownBlock) :
    Rd 95 s w.heap.size st w'' ∧ Below w.heap.size w w'' ∧ w''.ownsRow (w.heap.size + 1) 55 9 v' (l ++ [y]).length (entsCells (l ++ [y])) := by
  have hb := h.be.grown (grown_alloc w' o none) h.be.size (by simp)
  refine ⟨(h.rd.kept (grown_alloc w' o none) (by simp)).kept hg (fun e => by have := (h.ow.lt _ e.symm).1; omega), hb.grown hg hb.size (fun k e => by have := (h.ow.lt k e).1; omega), ?_⟩
  rw [entsCells_snoc, List.length_append]; exact ho

set_option maxRecDepth 100000 in
set_option maxHeartbeats 8000000 in
theorem entries_any (s : ByteArray) (w : World) (hs : s.size ≤ 1000) :
    Calls Tryd.prog 19 #[.string s] w fun e w' => Below w.heap.size w w' ∧ ∃ v, e = .returned (.tuple #[v, .int .i64 ((Hx.scHead s).1 : Int), .bool (!(Hx.scAll s).1.bad)]) ∧ w'.ownsRow (w.heap.size + 1) 55 9 v (Hx.scAll s).2.length (entsCells (Hx.scAll s).2) ∧ (Hx.scAll s).2.length ≤ 1001 := by
  have hs1 : s.size ≤ 10000000 := by omega
  obtain ⟨i0, hi, hz0, hz1, hz2⟩ := info_parts Tryd.infoEnt
  have HI := hide hi
  have HZ0 := hide hz0
  have HZ1 := hide hz1
  have HZ2 := hide hz2
  clear hi hz0 hz1 hz2
  go_enter Tryd.func19, Tryd.ntmps19
  go_wp2_with fail
  have HR0 : Hid (Rd 95 s w.heap.size ⟨0, false⟩ _) := blk_new w #[.string s, .int .i64 0, .bool false] 95
  have HB0 := hide ((Below.refl w.heap.size w).alloc (Nat.le_refl _) (.cells #[.string s, .int .i64 0, .bool false] 95))
  refine (scmust_any s _ ⟨0, false⟩ _ 106 _ hs1 (Nat.zero_le _) rfl (by omega) (unhide HR0)).mono ?_
  rintro e w1 ⟨rfl, hr, hg⟩
  have HB1 := hide ((unhide HB0).grown hg (unhide HB0).size (by simp))
  have HR1 := hide hr
  clear hr hg HR0 HB0
  go_wp2_with fail
  refine (scnum_any s _ _ _ hs1 (Hx.scMust_le (by omega) (Nat.zero_le _)) (unhide HR1)).mono ?_
  rintro e w2 ⟨rfl, hr, hg⟩
  have HB2 := hide ((unhide HB1).grown hg (unhide HB1).size (by simp))
  have HR2 : Hid (Rd 95 s w.heap.size (Hx.scHead s).2 w2) := hr
  have P2 : Hid ((Hx.scHead s).2.pos ≤ s.size) := Hx.scNum_le (Hx.scMust_le (by omega) (Nat.zero_le _))
  clear hr hg HR1 HB1
  have hjf : (Hx.scNum s (Hx.scMust s 106 ⟨0, false⟩)).1 = (Hx.scHead s).1 := rfl
  rw [hjf]
  clear hjf
  obtain ⟨j, hj⟩ : ∃ j, j = (Hx.scHead s).1 := ⟨_, rfl⟩
  rw [← hj]
  have HJ := hide hj
  clear hj
  go_wp2_with fail
  go_loopg [6] (Hx.mT s (Hx.scHead s).2) (fun gk lv wr => ∃ (st : Hx.St) (acc : List Hx.Ent), st.pos ≤ s.size ∧ gk = Hx.mT s st ∧ acc.length ≤ s.size + 1 ∧ (st.bad = false → acc.length ≤ st.pos) ∧ Rd 95 s w.heap.size st wr ∧ Below w.heap.size w wr ∧ wr.ownsRow (w.heap.size + 1) 55 9 lv acc.length (entsCells acc) ∧ Hx.scEnts s st acc = Hx.scAll s)
  case atStart => exact ⟨_, [], unhide P2, rfl, by simp, by simp, unhide HR2, unhide HB2, World.ownsRow_nil _ _ _ _, rfl⟩
  case round =>
    clear HR2 P2 HB2
    obtain ⟨st, acc, hpos, rfl, hacc, hacc2, hrd, hbe, hown, hfin⟩ := hrel
    obtain ⟨ao, cap, rfl⟩ := own_form hown
    have c1 := hrd.c1
    have c2 := hrd.c2
    have HRD := hide hrd
    have HBE := hide hbe
    have HOWN := hide hown
    have HFIN := hide hfin
    clear hrd hbe hown hfin
    by_cases hgo : st.bad = false ∧ st.pos < s.size
    · obtain ⟨pos, bad⟩ := st
      simp only at hgo c1 c2 hpos hacc2
      obtain ⟨rfl, hlt⟩ := hgo
      have hacc3 := hacc2 rfl
      have hltI : (pos : Int) < (s.size : Int) := by omega
      have HMT := hide (Hx.scm_lt (s := s) (st := ⟨pos, false⟩) rfl hlt)
      have HGT := hide (Hx.scStep_gt (s := s) (st := ⟨pos, false⟩))
      have HFIN2 := hide ((Hx.scEnts_more (s := s) (st := ⟨pos, false⟩) (acc := acc) rfl hlt).symm.trans (unhide HFIN))
      clear hacc2 HFIN
      go_wp2_with fail
      have hxge : w.heap.size + 1 ≤ wr.heap.size := Rd.lt (unhide HRD)
      have IN0 : Hid (InE s w wr.heap.size _ _ _ (.slice ao acc.length cap) acc) := ⟨(unhide HRD).kept (grown_alloc wr (.cells #[.int .i64 0, .int .i64 0, .int .i64 0, .int .i64 0, .int .i64 0, .int .i64 (-1), .int .i64 0, .int .i64 0, .int .i64 (-1)] 55) none) (by simp), (unhide HBE).grown (grown_alloc wr _ none) (unhide HBE).size (by simp), blk_new wr _ _, (unhide HOWN).alloc _, fun e => by have := ((unhide HOWN).lt _ e).2; omega, hxge⟩
      clear HRD HBE HOWN c1 c2
      obtain ⟨xb, hxb⟩ : ∃ xb, xb = wr.heap.size := ⟨_, rfl⟩
      rw [← hxb] at IN0 hxge ⊢
      clear hxb
      refine (scmust_any s _ ⟨pos, false⟩ _ 59 _ hs1 hpos rfl (by omega) (unhide IN0).rd).mono ?_
      rintro e w10 ⟨rfl, hr, hg⟩
      have I10 := hide ((unhide IN0).call hr hg)
      obtain ⟨t10, hE⟩ : ∃ t, t = Hx.scMust s 59 ⟨pos, false⟩ := ⟨_, rfl⟩
      have P10 : t10.pos ≤ s.size := by rw [hE]; exact Hx.scMust_le (by omega) hpos
      rw [← hE] at I10
      have E10 := hide hE
      clear hr hg hE IN0
      go_wp2_with fail
      refine (scname_any s _ t10 _ hs1 P10 (unhide I10).rd).mono ?_
      rintro e w11 ⟨rfl, hr, hg⟩
      have J11 := hide ((unhide I10).call hr hg)
      have hP := Hx.scName_le (s := s) (st := t10) P10
      obtain ⟨r, hE⟩ : ∃ t, t = Hx.scName s t10 := ⟨_, rfl⟩
      rw [← hE] at J11 hP ⊢
      obtain ⟨⟨v11a, v11b⟩, t11⟩ := r
      simp only at J11 hP ⊢
      have P11 : t11.pos ≤ s.size := hP
      have E11 := hide hE
      have xo : w11.cell? ⟨xb, 0, none⟩ = some (.int .i64 0) := blk_cell (unhide J11).xx 0
      have xo1 : w11.cell? ⟨xb, 1, none⟩ = some (.int .i64 0) := blk_cell (unhide J11).xx 1
      have xf := blk_free (unhide J11).xx
      clear hr hg hE hP I10
      go_wp2_with fail
      have I11 : Hid (InE s w xb _ _ #[.int .i64 (v11a : Int), .int .i64 (v11b : Int), .int .i64 0, .int .i64 0, .int .i64 0, .int .i64 (-1), .int .i64 0, .int .i64 0, .int .i64 (-1)] _ _) := ((unhide J11).setx 0 (.int .i64 (v11a : Int))).setx 1 (.int .i64 (v11b : Int))
      clear J11 xo xo1 xf
      refine (scmust_any s _ t11 _ 64 _ hs1 P11 rfl (by omega) (unhide I11).rd).mono ?_
      rintro e w12 ⟨rfl, hr, hg⟩
      have I12 := hide ((unhide I11).call hr hg)
      obtain ⟨t12, hE⟩ : ∃ t, t = Hx.scMust s 64 t11 := ⟨_, rfl⟩
      have P12 : t12.pos ≤ s.size := by rw [hE]; exact Hx.scMust_le (by omega) P11
      rw [← hE] at I12
      have E12 := hide hE
      clear hr hg hE I11
      go_wp2_with fail
      refine (scnum_any s _ t12 _ hs1 P12 (unhide I12).rd).mono ?_
      rintro e w13 ⟨rfl, hr, hg⟩
      have J13 := hide ((unhide I12).call hr hg)
      have hP := Hx.scNum_le (s := s) (st := t12) P12
      obtain ⟨r, hE⟩ : ∃ t, t = Hx.scNum s t12 := ⟨_, rfl⟩
      rw [← hE] at J13 hP ⊢
      obtain ⟨v13, t13⟩ := r
      simp only at J13 hP ⊢
      have P13 : t13.pos ≤ s.size := hP
      have E13 := hide hE
      have xo : w13.cell? ⟨xb, 2, none⟩ = some (.int .i64 0) := blk_cell (unhide J13).xx 2
      have xf := blk_free (unhide J13).xx
      clear hr hg hE hP I12
      go_wp2_with fail
      have I13 : Hid (InE s w xb _ _ #[.int .i64 (v11a : Int), .int .i64 (v11b : Int), .int .i64 (v13 : Int), .int .i64 0, .int .i64 0, .int .i64 (-1), .int .i64 0, .int .i64 0, .int .i64 (-1)] _ _) := (unhide J13).setx 2 (.int .i64 (v13 : Int))
      clear J13 xo xf
      refine (scmust_any s _ t13 _ 43 _ hs1 P13 rfl (by omega) (unhide I13).rd).mono ?_
      rintro e w14 ⟨rfl, hr, hg⟩
      have I14 := hide ((unhide I13).call hr hg)
      obtain ⟨t14, hE⟩ : ∃ t, t = Hx.scMust s 43 t13 := ⟨_, rfl⟩
      have P14 : t14.pos ≤ s.size := by rw [hE]; exact Hx.scMust_le (by omega) P13
      rw [← hE] at I14
      have E14 := hide hE
      clear hr hg hE I13
      go_wp2_with fail
      refine (scnum_any s _ t14 _ hs1 P14 (unhide I14).rd).mono ?_
      rintro e w15 ⟨rfl, hr, hg⟩
      have J15 := hide ((unhide I14).call hr hg)
      have hP := Hx.scNum_le (s := s) (st := t14) P14
      obtain ⟨r, hE⟩ : ∃ t, t = Hx.scNum s t14 := ⟨_, rfl⟩
      rw [← hE] at J15 hP ⊢
      obtain ⟨v15, t15⟩ := r
      simp only at J15 hP ⊢
      have P15 : t15.pos ≤ s.size := hP
      have E15 := hide hE
      have xo : w15.cell? ⟨xb, 3, none⟩ = some (.int .i64 0) := blk_cell (unhide J15).xx 3
      have xf := blk_free (unhide J15).xx
      clear hr hg hE hP I14
      go_wp2_with fail
      have I15 : Hid (InE s w xb _ _ #[.int .i64 (v11a : Int), .int .i64 (v11b : Int), .int .i64 (v13 : Int), .int .i64 (v15 : Int), .int .i64 0, .int .i64 (-1), .int .i64 0, .int .i64 0, .int .i64 (-1)] _ _) := (unhide J15).setx 3 (.int .i64 (v15 : Int))
      clear J15 xo xf
      refine (scmust_any s _ t15 _ 45 _ hs1 P15 rfl (by omega) (unhide I15).rd).mono ?_
      rintro e w16 ⟨rfl, hr, hg⟩
      have I16 := hide ((unhide I15).call hr hg)
      obtain ⟨t16, hE⟩ : ∃ t, t = Hx.scMust s 45 t15 := ⟨_, rfl⟩
      have P16 : t16.pos ≤ s.size := by rw [hE]; exact Hx.scMust_le (by omega) P15
      rw [← hE] at I16
      have E16 := hide hE
      clear hr hg hE I15
      go_wp2_with fail
      refine (scnum_any s _ t16 _ hs1 P16 (unhide I16).rd).mono ?_
      rintro e w165 ⟨rfl, hr, hg⟩
      have J165 := hide ((unhide I16).call hr hg)
      have hP := Hx.scNum_le (s := s) (st := t16) P16
      obtain ⟨r, hE⟩ : ∃ t, t = Hx.scNum s t16 := ⟨_, rfl⟩
      rw [← hE] at J165 hP ⊢
      obtain ⟨v165, t165⟩ := r
      simp only at J165 hP ⊢
      have P165 : t165.pos ≤ s.size := hP
      have E165 := hide hE
      have xo : w165.cell? ⟨xb, 4, none⟩ = some (.int .i64 0) := blk_cell (unhide J165).xx 4
      have xf := blk_free (unhide J165).xx
      clear hr hg hE hP I16
      go_wp2_with fail
      have I165 : Hid (InE s w xb _ _ #[.int .i64 (v11a : Int), .int .i64 (v11b : Int), .int .i64 (v13 : Int), .int .i64 (v15 : Int), .int .i64 (v165 : Int), .int .i64 (-1), .int .i64 0, .int .i64 0, .int .i64 (-1)] _ _) := (unhide J165).setx 4 (.int .i64 (v165 : Int))
      clear J165 xo xf
      by_cases hB : Hx.byteAt s t165.pos = 60
      · skip
        have E17 : Hid (Hx.scIs s 60 t165 = (true, ⟨t165.pos + 1, t165.bad⟩)) := by show _ = _; unfold Hx.scIs; rw [if_pos hB]
        have hP := Hx.scIs_le (s := s) (c := 60) (st := t165) (by omega) P165
        have HC := hide (scis_any s _ t165 60 60 _ hs1 P165 rfl (by omega) (unhide I165).rd)
        rw [unhide E17] at HC hP
        refine (unhide HC).mono ?_
        rintro e w17 ⟨rfl, hr, hg⟩
        have I17 := hide ((unhide I165).call hr hg)
        obtain ⟨t17, hE⟩ : ∃ t, t = (⟨t165.pos + 1, t165.bad⟩ : Hx.St) := ⟨_, rfl⟩
        simp only at I17 hP
        rw [← hE] at I17 E17
        have P17 : t17.pos ≤ s.size := by rw [hE]; exact hP
        clear hr hg hE hP I165 HC hB
        go_wp2_with fail
        refine (scnum_any s _ t17 _ hs1 P17 (unhide I17).rd).mono ?_
        rintro e w18 ⟨rfl, hr, hg⟩
        have J18 := hide ((unhide I17).call hr hg)
        have hP := Hx.scNum_le (s := s) (st := t17) P17
        obtain ⟨r, hE⟩ : ∃ t, t = Hx.scNum s t17 := ⟨_, rfl⟩
        rw [← hE] at J18 hP ⊢
        obtain ⟨v18, t18⟩ := r
        simp only at J18 hP ⊢
        have P18 : t18.pos ≤ s.size := hP
        have E18 := hide hE
        have xo : w18.cell? ⟨xb, 5, none⟩ = some (.int .i64 (-1)) := blk_cell (unhide J18).xx 5
        have xf := blk_free (unhide J18).xx
        clear hr hg hE hP I17
        go_wp2_with fail
        have I18 : Hid (InE s w xb _ _ #[.int .i64 (v11a : Int), .int .i64 (v11b : Int), .int .i64 (v13 : Int), .int .i64 (v15 : Int), .int .i64 (v165 : Int), .int .i64 (v18 : Int), .int .i64 0, .int .i64 0, .int .i64 (-1)] _ _) := (unhide J18).setx 5 (.int .i64 (v18 : Int))
        clear J18 xo xf
        refine (scmust_any s _ t18 _ 58 _ hs1 P18 rfl (by omega) (unhide I18).rd).mono ?_
        rintro e w19 ⟨rfl, hr, hg⟩
        have I19 := hide ((unhide I18).call hr hg)
        obtain ⟨t19, hE⟩ : ∃ t, t = Hx.scMust s 58 t18 := ⟨_, rfl⟩
        have P19 : t19.pos ≤ s.size := by rw [hE]; exact Hx.scMust_le (by omega) P18
        rw [← hE] at I19
        have E19 := hide hE
        clear hr hg hE I18
        go_wp2_with fail
        refine (scnum_any s _ t19 _ hs1 P19 (unhide I19).rd).mono ?_
        rintro e w20 ⟨rfl, hr, hg⟩
        have J20 := hide ((unhide I19).call hr hg)
        have hP := Hx.scNum_le (s := s) (st := t19) P19
        obtain ⟨r, hE⟩ : ∃ t, t = Hx.scNum s t19 := ⟨_, rfl⟩
        rw [← hE] at J20 hP ⊢
        obtain ⟨v20, t20⟩ := r
        simp only at J20 hP ⊢
        have P20 : t20.pos ≤ s.size := hP
        have E20 := hide hE
        have xo : w20.cell? ⟨xb, 6, none⟩ = some (.int .i64 0) := blk_cell (unhide J20).xx 6
        have xf := blk_free (unhide J20).xx
        clear hr hg hE hP I19
        go_wp2_with fail
        have I20 : Hid (InE s w xb _ _ #[.int .i64 (v11a : Int), .int .i64 (v11b : Int), .int .i64 (v13 : Int), .int .i64 (v15 : Int), .int .i64 (v165 : Int), .int .i64 (v18 : Int), .int .i64 (v20 : Int), .int .i64 0, .int .i64 (-1)] _ _) := (unhide J20).setx 6 (.int .i64 (v20 : Int))
        clear J20 xo xf
        refine (scmust_any s _ t20 _ 45 _ hs1 P20 rfl (by omega) (unhide I20).rd).mono ?_
        rintro e w21 ⟨rfl, hr, hg⟩
        have I21 := hide ((unhide I20).call hr hg)
        obtain ⟨t21, hE⟩ : ∃ t, t = Hx.scMust s 45 t20 := ⟨_, rfl⟩
        have P21 : t21.pos ≤ s.size := by rw [hE]; exact Hx.scMust_le (by omega) P20
        rw [← hE] at I21
        have E21 := hide hE
        clear hr hg hE I20
        go_wp2_with fail
        refine (scnum_any s _ t21 _ hs1 P21 (unhide I21).rd).mono ?_
        rintro e w22 ⟨rfl, hr, hg⟩
        have J22 := hide ((unhide I21).call hr hg)
        have hP := Hx.scNum_le (s := s) (st := t21) P21
        obtain ⟨r, hE⟩ : ∃ t, t = Hx.scNum s t21 := ⟨_, rfl⟩
        rw [← hE] at J22 hP ⊢
        obtain ⟨v22, t22⟩ := r
        simp only at J22 hP ⊢
        have P22 : t22.pos ≤ s.size := hP
        have E22 := hide hE
        have xo : w22.cell? ⟨xb, 7, none⟩ = some (.int .i64 0) := blk_cell (unhide J22).xx 7
        have xf := blk_free (unhide J22).xx
        clear hr hg hE hP I21
        go_wp2_with fail
        have I22 : Hid (InE s w xb _ _ #[.int .i64 (v11a : Int), .int .i64 (v11b : Int), .int .i64 (v13 : Int), .int .i64 (v15 : Int), .int .i64 (v165 : Int), .int .i64 (v18 : Int), .int .i64 (v20 : Int), .int .i64 (v22 : Int), .int .i64 (-1)] _ _) := (unhide J22).setx 7 (.int .i64 (v22 : Int))
        clear J22 xo xf
        by_cases hB : Hx.byteAt s t22.pos = 62
        · skip
          have E24 : Hid (Hx.scIs s 62 t22 = (true, ⟨t22.pos + 1, t22.bad⟩)) := by show _ = _; unfold Hx.scIs; rw [if_pos hB]
          have hP := Hx.scIs_le (s := s) (c := 62) (st := t22) (by omega) P22
          have HC := hide (scis_any s _ t22 62 62 _ hs1 P22 rfl (by omega) (unhide I22).rd)
          rw [unhide E24] at HC hP
          refine (unhide HC).mono ?_
          rintro e w24 ⟨rfl, hr, hg⟩
          have I24 := hide ((unhide I22).call hr hg)
          obtain ⟨t24, hE⟩ : ∃ t, t = (⟨t22.pos + 1, t22.bad⟩ : Hx.St) := ⟨_, rfl⟩
          simp only at I24 hP
          rw [← hE] at I24 E24
          have P24 : t24.pos ≤ s.size := by rw [hE]; exact hP
          clear hr hg hE hP I22 HC hB
          go_wp2_with fail
          refine (scnum_any s _ t24 _ hs1 P24 (unhide I24).rd).mono ?_
          rintro e w25 ⟨rfl, hr, hg⟩
          have J25 := hide ((unhide I24).call hr hg)
          have hP := Hx.scNum_le (s := s) (st := t24) P24
          obtain ⟨r, hE⟩ : ∃ t, t = Hx.scNum s t24 := ⟨_, rfl⟩
          rw [← hE] at J25 hP ⊢
          obtain ⟨v25, t25⟩ := r
          simp only at J25 hP ⊢
          have P25 : t25.pos ≤ s.size := hP
          have E25 := hide hE
          have xo : w25.cell? ⟨xb, 8, none⟩ = some (.int .i64 (-1)) := blk_cell (unhide J25).xx 8
          have xf := blk_free (unhide J25).xx
          clear hr hg hE hP I24
          go_upto_region 25 with fail
          have I25 : Hid (InE s w xb _ _ #[.int .i64 (v11a : Int), .int .i64 (v11b : Int), .int .i64 (v13 : Int), .int .i64 (v15 : Int), .int .i64 (v165 : Int), .int .i64 (v18 : Int), .int .i64 (v20 : Int), .int .i64 (v22 : Int), .int .i64 (v25 : Int)] _ _) := (unhide J25).setx 8 (.int .i64 (v25 : Int))
          clear J25 xo xf
          generalize w25.setCell ⟨xb, 8, none⟩ (.int .i64 (v25 : Int)) = w80 at I25 ⊢
          have hT : Hx.scStep s ⟨pos, false⟩ = (⟨v11a, v11b, v13, v15, v165, (v18 : Int), v20, v22, (v25 : Int)⟩, t25) := by simp [Hx.scStep, Hx.scRest, Hx.scInto, ← unhide E10, ← unhide E11, ← unhide E12, ← unhide E13, ← unhide E14, ← unhide E15, ← unhide E16, ← unhide E165, unhide E17, ← unhide E18, ← unhide E19, ← unhide E20, ← unhide E21, ← unhide E22, unhide E24, ← unhide E25]
          have HFIN3 : Hid (Hx.scEnts s t25 (acc ++ [⟨v11a, v11b, v13, v15, v165, (v18 : Int), v20, v22, (v25 : Int)⟩]) = Hx.scAll s) := by
            have h := unhide HFIN2
            rw [hT] at h
            exact h
          have hMT : Hx.mT s t25 < Hx.mT s ⟨pos, false⟩ := by have h := unhide HMT; rw [hT] at h; exact h
          have hGT : (t25 : Hx.St).bad = false → pos < (t25 : Hx.St).pos := by have h := unhide HGT; rw [hT] at h; exact h
          have HMT2 := hide hMT
          have HGT2 := hide hGT
          clear hT hMT hGT HFIN2
          have x0 : w80.cell? ⟨xb, 0, none⟩ = some (.int .i64 (v11a : Int)) := blk_cell (unhide I25).xx 0
          have x1 : w80.cell? ⟨xb, 1, none⟩ = some (.int .i64 (v11b : Int)) := blk_cell (unhide I25).xx 1
          have x2 : w80.cell? ⟨xb, 2, none⟩ = some (.int .i64 (v13 : Int)) := blk_cell (unhide I25).xx 2
          have x3 : w80.cell? ⟨xb, 3, none⟩ = some (.int .i64 (v15 : Int)) := blk_cell (unhide I25).xx 3
          have x4 : w80.cell? ⟨xb, 4, none⟩ = some (.int .i64 (v165 : Int)) := blk_cell (unhide I25).xx 4
          have x5 : w80.cell? ⟨xb, 5, none⟩ = some (.int .i64 (v18 : Int)) := blk_cell (unhide I25).xx 5
          have x6 : w80.cell? ⟨xb, 6, none⟩ = some (.int .i64 (v20 : Int)) := blk_cell (unhide I25).xx 6
          have x7 : w80.cell? ⟨xb, 7, none⟩ = some (.int .i64 (v22 : Int)) := blk_cell (unhide I25).xx 7
          have x8 : w80.cell? ⟨xb, 8, none⟩ = some (.int .i64 (v25 : Int)) := blk_cell (unhide I25).xx 8
          have hszw : w.heap.size + 1 ≤ w80.heap.size := Rd.lt (unhide I25).rd
          go_wp2_with (at_builtin; refine wpList_append_own _ rfl _ _ 41 rfl (w.heap.size + 1) 55 i0 (.agg #[.int .i64 0, .int .i64 0, .int .i64 0, .int .i64 0, .int .i64 0, .int .i64 0, .int .i64 0, .int .i64 0, .int .i64 0]) 9 72 Tryd.underlying41 (unhide HI) (unhide HZ0) (unhide HZ1) (unhide HZ2) rfl (by decide) _ _ _ rfl ((unhide I25).ow.alloc _) ⟨w80.heap.size, 0, none⟩ 1 1 (entCells ⟨v11a, v11b, v13, v15, v165, (v18 : Int), v20, v22, (v25 : Int)⟩) rfl rfl (news_new w80 (entCells ⟨v11a, v11b, v13, v15, v165, (v18 : Int), v20, v22, (v25 : Int)⟩) 55) (entCells_one _) (by unfold maxLen; omega) (by omega) (by simp; omega) ?_; intro v' w90 hown' hgrow' _; obtain ⟨ao3, cap3, rfl⟩ := own_form hown'; have K9 := hide ((unhide I25).app (o := .cells (entCells ⟨v11a, v11b, v13, v15, v165, (v18 : Int), v20, v22, (v25 : Int)⟩).toArray 55) hown' hgrow'); clear hown' hgrow')
          go_roundg (Hx.mT s t25)
          case measure => exact unhide HMT2
          case rel =>
            refine ⟨t25, acc ++ [⟨v11a, v11b, v13, v15, v165, (v18 : Int), v20, v22, (v25 : Int)⟩], P25, rfl, by rw [List.length_append]; show acc.length + 1 ≤ s.size + 1; omega, fun hb => ?_, (unhide K9).1, (unhide K9).2.1, (unhide K9).2.2, unhide HFIN3⟩
            have := unhide HGT2 hb
            rw [List.length_append]; show acc.length + 1 ≤ _; omega
        · skip
          have E24 : Hid (Hx.scIs s 62 t22 = (false, t22)) := by show _ = _; unfold Hx.scIs; rw [if_neg hB]
          have HC := hide (scis_any s _ t22 62 62 _ hs1 P22 rfl (by omega) (unhide I22).rd)
          rw [unhide E24] at HC
          refine (unhide HC).mono ?_
          rintro e w24 ⟨rfl, hr, hg⟩
          have I24 := hide ((unhide I22).call hr hg)
          simp only at I24
          clear hr hg I22 HC hB
          go_upto_region 25 with fail
          have hT : Hx.scStep s ⟨pos, false⟩ = (⟨v11a, v11b, v13, v15, v165, (v18 : Int), v20, v22, -1⟩, t22) := by simp [Hx.scStep, Hx.scRest, Hx.scInto, ← unhide E10, ← unhide E11, ← unhide E12, ← unhide E13, ← unhide E14, ← unhide E15, ← unhide E16, ← unhide E165, unhide E17, ← unhide E18, ← unhide E19, ← unhide E20, ← unhide E21, ← unhide E22, unhide E24]
          have HFIN3 : Hid (Hx.scEnts s t22 (acc ++ [⟨v11a, v11b, v13, v15, v165, (v18 : Int), v20, v22, -1⟩]) = Hx.scAll s) := by
            have h := unhide HFIN2
            rw [hT] at h
            exact h
          have hMT : Hx.mT s t22 < Hx.mT s ⟨pos, false⟩ := by have h := unhide HMT; rw [hT] at h; exact h
          have hGT : (t22 : Hx.St).bad = false → pos < (t22 : Hx.St).pos := by have h := unhide HGT; rw [hT] at h; exact h
          have HMT2 := hide hMT
          have HGT2 := hide hGT
          clear hT hMT hGT HFIN2
          have x0 : w24.cell? ⟨xb, 0, none⟩ = some (.int .i64 (v11a : Int)) := blk_cell (unhide I24).xx 0
          have x1 : w24.cell? ⟨xb, 1, none⟩ = some (.int .i64 (v11b : Int)) := blk_cell (unhide I24).xx 1
          have x2 : w24.cell? ⟨xb, 2, none⟩ = some (.int .i64 (v13 : Int)) := blk_cell (unhide I24).xx 2
          have x3 : w24.cell? ⟨xb, 3, none⟩ = some (.int .i64 (v15 : Int)) := blk_cell (unhide I24).xx 3
          have x4 : w24.cell? ⟨xb, 4, none⟩ = some (.int .i64 (v165 : Int)) := blk_cell (unhide I24).xx 4
          have x5 : w24.cell? ⟨xb, 5, none⟩ = some (.int .i64 (v18 : Int)) := blk_cell (unhide I24).xx 5
          have x6 : w24.cell? ⟨xb, 6, none⟩ = some (.int .i64 (v20 : Int)) := blk_cell (unhide I24).xx 6
          have x7 : w24.cell? ⟨xb, 7, none⟩ = some (.int .i64 (v22 : Int)) := blk_cell (unhide I24).xx 7
          have x8 : w24.cell? ⟨xb, 8, none⟩ = some (.int .i64 (-1)) := blk_cell (unhide I24).xx 8
          have hszw : w.heap.size + 1 ≤ w24.heap.size := Rd.lt (unhide I24).rd
          go_wp2_with (at_builtin; refine wpList_append_own _ rfl _ _ 41 rfl (w.heap.size + 1) 55 i0 (.agg #[.int .i64 0, .int .i64 0, .int .i64 0, .int .i64 0, .int .i64 0, .int .i64 0, .int .i64 0, .int .i64 0, .int .i64 0]) 9 72 Tryd.underlying41 (unhide HI) (unhide HZ0) (unhide HZ1) (unhide HZ2) rfl (by decide) _ _ _ rfl ((unhide I24).ow.alloc _) ⟨w24.heap.size, 0, none⟩ 1 1 (entCells ⟨v11a, v11b, v13, v15, v165, (v18 : Int), v20, v22, -1⟩) rfl rfl (news_new w24 (entCells ⟨v11a, v11b, v13, v15, v165, (v18 : Int), v20, v22, -1⟩) 55) (entCells_one _) (by unfold maxLen; omega) (by omega) (by simp; omega) ?_; intro v' w90 hown' hgrow' _; obtain ⟨ao3, cap3, rfl⟩ := own_form hown'; have K9 := hide ((unhide I24).app (o := .cells (entCells ⟨v11a, v11b, v13, v15, v165, (v18 : Int), v20, v22, -1⟩).toArray 55) hown' hgrow'); clear hown' hgrow')
          go_roundg (Hx.mT s t22)
          case measure => exact unhide HMT2
          case rel =>
            refine ⟨t22, acc ++ [⟨v11a, v11b, v13, v15, v165, (v18 : Int), v20, v22, -1⟩], P22, rfl, by rw [List.length_append]; show acc.length + 1 ≤ s.size + 1; omega, fun hb => ?_, (unhide K9).1, (unhide K9).2.1, (unhide K9).2.2, unhide HFIN3⟩
            have := unhide HGT2 hb
            rw [List.length_append]; show acc.length + 1 ≤ _; omega
      · skip
        have E17 : Hid (Hx.scIs s 60 t165 = (false, t165)) := by show _ = _; unfold Hx.scIs; rw [if_neg hB]
        have HC := hide (scis_any s _ t165 60 60 _ hs1 P165 rfl (by omega) (unhide I165).rd)
        rw [unhide E17] at HC
        refine (unhide HC).mono ?_
        rintro e w17 ⟨rfl, hr, hg⟩
        have I17 := hide ((unhide I165).call hr hg)
        simp only at I17
        clear hr hg I165 HC hB
        go_wp2_with fail
        by_cases hB : Hx.byteAt s t165.pos = 62
        · skip
          have E24 : Hid (Hx.scIs s 62 t165 = (true, ⟨t165.pos + 1, t165.bad⟩)) := by show _ = _; unfold Hx.scIs; rw [if_pos hB]
          have hP := Hx.scIs_le (s := s) (c := 62) (st := t165) (by omega) P165
          have HC := hide (scis_any s _ t165 62 62 _ hs1 P165 rfl (by omega) (unhide I17).rd)
          rw [unhide E24] at HC hP
          refine (unhide HC).mono ?_
          rintro e w24 ⟨rfl, hr, hg⟩
          have I24 := hide ((unhide I17).call hr hg)
          obtain ⟨t24, hE⟩ : ∃ t, t = (⟨t165.pos + 1, t165.bad⟩ : Hx.St) := ⟨_, rfl⟩
          simp only at I24 hP
          rw [← hE] at I24 E24
          have P24 : t24.pos ≤ s.size := by rw [hE]; exact hP
          clear hr hg hE hP I17 HC hB
          go_wp2_with fail
          refine (scnum_any s _ t24 _ hs1 P24 (unhide I24).rd).mono ?_
          rintro e w25 ⟨rfl, hr, hg⟩
          have J25 := hide ((unhide I24).call hr hg)
          have hP := Hx.scNum_le (s := s) (st := t24) P24
          obtain ⟨r, hE⟩ : ∃ t, t = Hx.scNum s t24 := ⟨_, rfl⟩
          rw [← hE] at J25 hP ⊢
          obtain ⟨v25, t25⟩ := r
          simp only at J25 hP ⊢
          have P25 : t25.pos ≤ s.size := hP
          have E25 := hide hE
          have xo : w25.cell? ⟨xb, 8, none⟩ = some (.int .i64 (-1)) := blk_cell (unhide J25).xx 8
          have xf := blk_free (unhide J25).xx
          clear hr hg hE hP I24
          go_upto_region 25 with fail
          have I25 : Hid (InE s w xb _ _ #[.int .i64 (v11a : Int), .int .i64 (v11b : Int), .int .i64 (v13 : Int), .int .i64 (v15 : Int), .int .i64 (v165 : Int), .int .i64 (-1), .int .i64 0, .int .i64 0, .int .i64 (v25 : Int)] _ _) := (unhide J25).setx 8 (.int .i64 (v25 : Int))
          clear J25 xo xf
          generalize w25.setCell ⟨xb, 8, none⟩ (.int .i64 (v25 : Int)) = w80 at I25 ⊢
          have hT : Hx.scStep s ⟨pos, false⟩ = (⟨v11a, v11b, v13, v15, v165, -1, 0, 0, (v25 : Int)⟩, t25) := by simp [Hx.scStep, Hx.scRest, Hx.scInto, ← unhide E10, ← unhide E11, ← unhide E12, ← unhide E13, ← unhide E14, ← unhide E15, ← unhide E16, ← unhide E165, unhide E17, unhide E24, ← unhide E25]
          have HFIN3 : Hid (Hx.scEnts s t25 (acc ++ [⟨v11a, v11b, v13, v15, v165, -1, 0, 0, (v25 : Int)⟩]) = Hx.scAll s) := by
            have h := unhide HFIN2
            rw [hT] at h
            exact h
          have hMT : Hx.mT s t25 < Hx.mT s ⟨pos, false⟩ := by have h := unhide HMT; rw [hT] at h; exact h
          have hGT : (t25 : Hx.St).bad = false → pos < (t25 : Hx.St).pos := by have h := unhide HGT; rw [hT] at h; exact h
          have HMT2 := hide hMT
          have HGT2 := hide hGT
          clear hT hMT hGT HFIN2
          have x0 : w80.cell? ⟨xb, 0, none⟩ = some (.int .i64 (v11a : Int)) := blk_cell (unhide I25).xx 0
          have x1 : w80.cell? ⟨xb, 1, none⟩ = some (.int .i64 (v11b : Int)) := blk_cell (unhide I25).xx 1
          have x2 : w80.cell? ⟨xb, 2, none⟩ = some (.int .i64 (v13 : Int)) := blk_cell (unhide I25).xx 2
          have x3 : w80.cell? ⟨xb, 3, none⟩ = some (.int .i64 (v15 : Int)) := blk_cell (unhide I25).xx 3
          have x4 : w80.cell? ⟨xb, 4, none⟩ = some (.int .i64 (v165 : Int)) := blk_cell (unhide I25).xx 4
          have x5 : w80.cell? ⟨xb, 5, none⟩ = some (.int .i64 (-1)) := blk_cell (unhide I25).xx 5
          have x6 : w80.cell? ⟨xb, 6, none⟩ = some (.int .i64 0) := blk_cell (unhide I25).xx 6
          have x7 : w80.cell? ⟨xb, 7, none⟩ = some (.int .i64 0) := blk_cell (unhide I25).xx 7
          have x8 : w80.cell? ⟨xb, 8, none⟩ = some (.int .i64 (v25 : Int)) := blk_cell (unhide I25).xx 8
          have hszw : w.heap.size + 1 ≤ w80.heap.size := Rd.lt (unhide I25).rd
          go_wp2_with (at_builtin; refine wpList_append_own _ rfl _ _ 41 rfl (w.heap.size + 1) 55 i0 (.agg #[.int .i64 0, .int .i64 0, .int .i64 0, .int .i64 0, .int .i64 0, .int .i64 0, .int .i64 0, .int .i64 0, .int .i64 0]) 9 72 Tryd.underlying41 (unhide HI) (unhide HZ0) (unhide HZ1) (unhide HZ2) rfl (by decide) _ _ _ rfl ((unhide I25).ow.alloc _) ⟨w80.heap.size, 0, none⟩ 1 1 (entCells ⟨v11a, v11b, v13, v15, v165, -1, 0, 0, (v25 : Int)⟩) rfl rfl (news_new w80 (entCells ⟨v11a, v11b, v13, v15, v165, -1, 0, 0, (v25 : Int)⟩) 55) (entCells_one _) (by unfold maxLen; omega) (by omega) (by simp; omega) ?_; intro v' w90 hown' hgrow' _; obtain ⟨ao3, cap3, rfl⟩ := own_form hown'; have K9 := hide ((unhide I25).app (o := .cells (entCells ⟨v11a, v11b, v13, v15, v165, -1, 0, 0, (v25 : Int)⟩).toArray 55) hown' hgrow'); clear hown' hgrow')
          go_roundg (Hx.mT s t25)
          case measure => exact unhide HMT2
          case rel =>
            refine ⟨t25, acc ++ [⟨v11a, v11b, v13, v15, v165, -1, 0, 0, (v25 : Int)⟩], P25, rfl, by rw [List.length_append]; show acc.length + 1 ≤ s.size + 1; omega, fun hb => ?_, (unhide K9).1, (unhide K9).2.1, (unhide K9).2.2, unhide HFIN3⟩
            have := unhide HGT2 hb
            rw [List.length_append]; show acc.length + 1 ≤ _; omega
        · skip
          have E24 : Hid (Hx.scIs s 62 t165 = (false, t165)) := by show _ = _; unfold Hx.scIs; rw [if_neg hB]
          have HC := hide (scis_any s _ t165 62 62 _ hs1 P165 rfl (by omega) (unhide I17).rd)
          rw [unhide E24] at HC
          refine (unhide HC).mono ?_
          rintro e w24 ⟨rfl, hr, hg⟩
          have I24 := hide ((unhide I17).call hr hg)
          simp only at I24
          clear hr hg I17 HC hB
          go_upto_region 25 with fail
          have hT : Hx.scStep s ⟨pos, false⟩ = (⟨v11a, v11b, v13, v15, v165, -1, 0, 0, -1⟩, t165) := by simp [Hx.scStep, Hx.scRest, Hx.scInto, ← unhide E10, ← unhide E11, ← unhide E12, ← unhide E13, ← unhide E14, ← unhide E15, ← unhide E16, ← unhide E165, unhide E17, unhide E24]
          have HFIN3 : Hid (Hx.scEnts s t165 (acc ++ [⟨v11a, v11b, v13, v15, v165, -1, 0, 0, -1⟩]) = Hx.scAll s) := by
            have h := unhide HFIN2
            rw [hT] at h
            exact h
          have hMT : Hx.mT s t165 < Hx.mT s ⟨pos, false⟩ := by have h := unhide HMT; rw [hT] at h; exact h
          have hGT : (t165 : Hx.St).bad = false → pos < (t165 : Hx.St).pos := by have h := unhide HGT; rw [hT] at h; exact h
          have HMT2 := hide hMT
          have HGT2 := hide hGT
          clear hT hMT hGT HFIN2
          have x0 : w24.cell? ⟨xb, 0, none⟩ = some (.int .i64 (v11a : Int)) := blk_cell (unhide I24).xx 0
          have x1 : w24.cell? ⟨xb, 1, none⟩ = some (.int .i64 (v11b : Int)) := blk_cell (unhide I24).xx 1
          have x2 : w24.cell? ⟨xb, 2, none⟩ = some (.int .i64 (v13 : Int)) := blk_cell (unhide I24).xx 2
          have x3 : w24.cell? ⟨xb, 3, none⟩ = some (.int .i64 (v15 : Int)) := blk_cell (unhide I24).xx 3
          have x4 : w24.cell? ⟨xb, 4, none⟩ = some (.int .i64 (v165 : Int)) := blk_cell (unhide I24).xx 4
          have x5 : w24.cell? ⟨xb, 5, none⟩ = some (.int .i64 (-1)) := blk_cell (unhide I24).xx 5
          have x6 : w24.cell? ⟨xb, 6, none⟩ = some (.int .i64 0) := blk_cell (unhide I24).xx 6
          have x7 : w24.cell? ⟨xb, 7, none⟩ = some (.int .i64 0) := blk_cell (unhide I24).xx 7
          have x8 : w24.cell? ⟨xb, 8, none⟩ = some (.int .i64 (-1)) := blk_cell (unhide I24).xx 8
          have hszw : w.heap.size + 1 ≤ w24.heap.size := Rd.lt (unhide I24).rd
          go_wp2_with (at_builtin; refine wpList_append_own _ rfl _ _ 41 rfl (w.heap.size + 1) 55 i0 (.agg #[.int .i64 0, .int .i64 0, .int .i64 0, .int .i64 0, .int .i64 0, .int .i64 0, .int .i64 0, .int .i64 0, .int .i64 0]) 9 72 Tryd.underlying41 (unhide HI) (unhide HZ0) (unhide HZ1) (unhide HZ2) rfl (by decide) _ _ _ rfl ((unhide I24).ow.alloc _) ⟨w24.heap.size, 0, none⟩ 1 1 (entCells ⟨v11a, v11b, v13, v15, v165, -1, 0, 0, -1⟩) rfl rfl (news_new w24 (entCells ⟨v11a, v11b, v13, v15, v165, -1, 0, 0, -1⟩) 55) (entCells_one _) (by unfold maxLen; omega) (by omega) (by simp; omega) ?_; intro v' w90 hown' hgrow' _; obtain ⟨ao3, cap3, rfl⟩ := own_form hown'; have K9 := hide ((unhide I24).app (o := .cells (entCells ⟨v11a, v11b, v13, v15, v165, -1, 0, 0, -1⟩).toArray 55) hown' hgrow'); clear hown' hgrow')
          go_roundg (Hx.mT s t165)
          case measure => exact unhide HMT2
          case rel =>
            refine ⟨t165, acc ++ [⟨v11a, v11b, v13, v15, v165, -1, 0, 0, -1⟩], P165, rfl, by rw [List.length_append]; show acc.length + 1 ≤ s.size + 1; omega, fun hb => ?_, (unhide K9).1, (unhide K9).2.1, (unhide K9).2.2, unhide HFIN3⟩
            have := unhide HGT2 hb
            rw [List.length_append]; show acc.length + 1 ≤ _; omega
    · have HEND := hide ((Hx.scEnts_end (acc := acc) hgo).symm.trans (unhide HFIN))
      obtain ⟨pos, bad⟩ := st
      simp only at hgo c1 c2 hpos hacc2
      cases bad
      · have hge : ¬ (pos : Int) < (s.size : Int) := by simp at hgo; omega
        clear hgo HFIN
        go_wp2_with fail
        go_quiet (fail)
        go_wp2_with fail
        go_returns
        rw [← unhide HEND, ← unhide HJ]
        exact ⟨below_drewN (unhide HBE) _, _, rfl, (unhide HOWN).kept (grown_drewN _ _ (some 0)) (own_ne (unhide HOWN) (by omega)), by show acc.length ≤ 1001; omega⟩
      · clear hgo HFIN
        go_wp2_with fail
        go_quiet (fail)
        go_wp2_with fail
        go_returns
        rw [← unhide HEND, ← unhide HJ]
        exact ⟨below_drewN (unhide HBE) _, _, rfl, (unhide HOWN).kept (grown_drewN _ _ (some 0)) (own_ne (unhide HOWN) (by omega)), by show acc.length ≤ 1001; omega⟩

end Go.Proofs.YtppcnlkhdgmaiaaDoor
