/- What the document's own reading of a protocol does: Protocol answers the plan, or the place at which the text ceases to be one. -/
import Derived.Test.YtppcnlkhdgmaiabGreatDoorCRfD
namespace Go.Proofs.YtppcnlkhdgmaiabGreatDoor
open Go.RowKit

set_option maxRecDepth 100000 in
set_option maxHeartbeats 8000000 in
theorem protocol_any (s : ByteArray) (w : World) (hs : s.size ≤ 120) :
    Calls Tryz.prog 16 #[.string s] w fun e w' => Below w.heap.size w w' ∧
      (((Hx.protF s).1.bad = true ∧ ∃ a3 n3 c3 a4, e = .returned (.tuple #[.agg #[.int .i64 ((Hx.headJ s).1 : Int), .int .i64 ((Hx.headK s).1 : Int), .int .i64 ((Hx.headD s).1 : Int), .slice a3 n3 c3, .int .i64 a4], .int .i64 ((Hx.protF s).1.pos : Int)])) ∨
       ((Hx.protF s).1.bad = false ∧ ∃ v, e = .returned (.tuple #[.agg #[.int .i64 ((Hx.headJ s).1 : Int), .int .i64 ((Hx.headK s).1 : Int), .int .i64 ((Hx.headD s).1 : Int), v, .int .i64 ((Hx.protF s).2.length : Int)], .int .i64 (-1)]) ∧ w'.ownsRow w.heap.size 53 10 v (Hx.labs (Hx.protF s).2).length (lstsCells (Hx.labs (Hx.protF s).2)) ∧ (Hx.protF s).2.length ≤ 121 ∧ (Hx.labs (Hx.protF s).2).length ≤ 120)) := by
  have hs1 : s.size ≤ 1000000 := by omega
  go_enter Tryz.func16, Tryz.ntmps16
  go_wp2_with fail
  have h0 := He.init s w
  have HH := hide h0
  refine (must_any s _ ⟨0, false⟩ _ 106 _ hs1 (Nat.zero_le _) rfl (by omega) h0.rd).mono ?_
  clear h0
  rintro e w1 ⟨rfl, hr1, hg1⟩
  have H1 := hide ((unhide HH).call hr1 hg1)
  clear hr1 hg1 HH
  go_wp2_with fail
  refine (refnum_any s _ _ _ 1 _ hs1 (Hx.takeF_le (by omega) (Nat.zero_le _)) (by omega) (by omega) rfl (unhide H1).rd).mono ?_
  rintro e w2 ⟨rfl, hr2, hg2⟩
  have H2 : Hid (He s w w2 (Hx.headJ s).2 _) := ((unhide H1).call hr2 hg2)
  clear hr2 hg2 H1
  have P2 : Hid ((Hx.headJ s).2.pos ≤ s.size) := Hx.numF_le (Hx.takeF_le (by omega) (Nat.zero_le _))
  have c0 : w2.cell? ⟨w.heap.size + 1 + 1, 0, none⟩ = some (.int .i64 0) := blk_cell (unhide H2).lo 0
  have f0 := blk_free (unhide H2).lo 0
  go_wp2_with fail
  have H3 : Hid (He s w _ _ #[.int .i64 ((Hx.headJ s).1 : Int), .int .i64 0, .int .i64 0, .slice none 0 0, .int .i64 0]) := ((unhide H2).store 0 (.int .i64 ((Hx.headJ s).1 : Int)))
  clear H2 c0 f0
  refine (must_any s _ _ _ 107 _ hs1 P2.out rfl (by omega) (unhide H3).rd).mono ?_
  rintro e w3 ⟨rfl, hr3, hg3⟩
  have H4 := hide ((unhide H3).call hr3 hg3)
  clear hr3 hg3 H3
  go_wp2_with fail
  refine (refnum_any s _ _ _ 1 _ hs1 (Hx.takeF_le (by omega) P2.out) (by omega) (by omega) rfl (unhide H4).rd).mono ?_
  rintro e w4 ⟨rfl, hr4, hg4⟩
  have H5 : Hid (He s w w4 (Hx.headK s).2 _) := ((unhide H4).call hr4 hg4)
  clear hr4 hg4 H4
  have P3 : Hid ((Hx.headK s).2.pos ≤ s.size) := Hx.numF_le (Hx.takeF_le (by omega) P2.out)
  have c1 : w4.cell? ⟨w.heap.size + 1 + 1, 1, none⟩ = some (.int .i64 0) := blk_cell (unhide H5).lo 1
  have f1 := blk_free (unhide H5).lo 1
  go_wp2_with fail
  have H6 : Hid (He s w _ _ #[.int .i64 ((Hx.headJ s).1 : Int), .int .i64 ((Hx.headK s).1 : Int), .int .i64 0, .slice none 0 0, .int .i64 0]) := ((unhide H5).store 1 (.int .i64 ((Hx.headK s).1 : Int)))
  clear H5 c1 f1
  refine (must_any s _ _ _ 100 _ hs1 P3.out rfl (by omega) (unhide H6).rd).mono ?_
  rintro e w5 ⟨rfl, hr5, hg5⟩
  have H7 := hide ((unhide H6).call hr5 hg5)
  clear hr5 hg5 H6
  go_wp2_with fail
  refine (refnum_any s _ _ _ 4 _ hs1 (Hx.takeF_le (by omega) P3.out) (by omega) (by omega) rfl (unhide H7).rd).mono ?_
  rintro e w6 ⟨rfl, hr6, hg6⟩
  have H8 : Hid (He s w w6 (Hx.headD s).2 _) := ((unhide H7).call hr6 hg6)
  clear hr6 hg6 H7
  have P4 : Hid ((Hx.headD s).2.pos ≤ s.size) := Hx.headD_le s
  have c2 : w6.cell? ⟨w.heap.size + 1 + 1, 2, none⟩ = some (.int .i64 0) := blk_cell (unhide H8).lo 2
  have f2 := blk_free (unhide H8).lo 2
  go_wp2_with fail
  have H9 : Hid (He s w _ _ #[.int .i64 ((Hx.headJ s).1 : Int), .int .i64 ((Hx.headK s).1 : Int), .int .i64 ((Hx.headD s).1 : Int), .slice none 0 0, .int .i64 0]) := ((unhide H8).store 2 (.int .i64 ((Hx.headD s).1 : Int)))
  clear H8 c2 f2 P2 P3
  obtain ⟨i0, hi, hz0, hz1, hz2⟩ := info_parts Tryz.info53
  have HI := hide hi
  have HZ0 := hide hz0
  have HZ1 := hide hz1
  have HZ2 := hide hz2
  clear hi hz0 hz1 hz2
  go_loopg [6] (mO s (Hx.headD s).2 true) (fun gk more wr => ∃ (st' : Hx.St) (ps : List (List Hx.Stp)) (v : Value) (mb : Bool), more = .bool mb ∧ st'.pos ≤ s.size ∧ gk = mO s st' mb ∧ (Hx.labs ps).length ≤ st'.pos ∧ ps.length ≤ 121 ∧ (st'.bad = false → 6 * ps.length ≤ st'.pos) ∧ He s w wr st' #[.int .i64 ((Hx.headJ s).1 : Int), .int .i64 ((Hx.headK s).1 : Int), .int .i64 ((Hx.headD s).1 : Int), v, .int .i64 (ps.length : Int)] ∧ wr.ownsRow (w.heap.size + 3) 53 10 v (Hx.labs ps).length (lstsCells (Hx.labs ps)) ∧ OutOK s st' mb ps)
  case atStart =>
    refine ⟨_, [], _, true, rfl, P4.out, rfl, by simp [Hx.labs_nil], by simp, by simp, unhide H9, World.ownsRow_nil _ _ _ _, ⟨fun h => ?_, fun _ _ => rfl, fun _ h => by cases h⟩⟩
    show (Hx.platesF s (Hx.headD s).2 []).1 = _
    rw [Hx.platesF_bad (by rw [Hx.plateF_bad h]; exact h), Hx.plateF_bad h]
  case round =>
    clear H9 P4
    obtain ⟨st', ps, v, mb, rfl, hpos, rfl, htot, hpl, hsix, hhe, hown, hok⟩ := hrel
    obtain ⟨ao, cap, rfl⟩ := own_form hown
    have c2 := hhe.rd.c2
    have c1 := hhe.rd.c1
    have HHE := hide hhe
    have HOWN := hide hown
    have HOK := hide hok
    clear hhe hown hok
    obtain ⟨pos, bad⟩ := st'
    simp only at c1 c2 hpos htot hsix
    cases bad
    · cases mb
      · have HFIN := hide ((unhide HOK).fin rfl rfl)
        have l0 : wr.cell? ⟨w.heap.size + 1 + 1, 0, none⟩ = some (.int .i64 ((Hx.headJ s).1 : Int)) := blk_cell (unhide HHE).lo 0
        have l1 : wr.cell? ⟨w.heap.size + 1 + 1, 1, none⟩ = some (.int .i64 ((Hx.headK s).1 : Int)) := blk_cell (unhide HHE).lo 1
        have l2 : wr.cell? ⟨w.heap.size + 1 + 1, 2, none⟩ = some (.int .i64 ((Hx.headD s).1 : Int)) := blk_cell (unhide HHE).lo 2
        have l3 : wr.cell? ⟨w.heap.size + 1 + 1, 3, none⟩ = some (.slice ao (Hx.labs ps).length cap) := blk_cell (unhide HHE).lo 3
        have l4 : wr.cell? ⟨w.heap.size + 1 + 1, 4, none⟩ = some (.int .i64 (ps.length : Int)) := blk_cell (unhide HHE).lo 4
        have e0 : wr.cell? ⟨w.heap.size, 0, none⟩ = some (.int .i64 0) := blk_cell (unhide HHE).re 0
        have e1 : wr.cell? ⟨w.heap.size, 1, none⟩ = some (.int .i64 0) := blk_cell (unhide HHE).re 1
        have e2 : wr.cell? ⟨w.heap.size, 2, none⟩ = some (.int .i64 0) := blk_cell (unhide HHE).re 2
        have e3 : wr.cell? ⟨w.heap.size, 3, none⟩ = some (.slice none 0 0) := blk_cell (unhide HHE).re 3
        have e4 : wr.cell? ⟨w.heap.size, 4, none⟩ = some (.int .i64 0) := blk_cell (unhide HHE).re 4
        have ef := blk_free (unhide HHE).re
        go_wp2_with fail
        refine bodyPost_ret (v := .tuple #[.agg #[.int .i64 ((Hx.headJ s).1 : Int), .int .i64 ((Hx.headK s).1 : Int), .int .i64 ((Hx.headD s).1 : Int), .slice ao (Hx.labs ps).length cap, .int .i64 (ps.length : Int)], .int .i64 (-1)]) (by simp [results, Tryz.results16, go_sem, e0, e1, e2, e3, e4]) rfl ?_
        have hle := Nat.le_refl w.heap.size
        have hlt3 : w.heap.size < w.heap.size + 3 := by omega
        refine ⟨(((((unhide HHE).be.setCell hle _).setCell hle _).setCell hle _).setCell hle _).setCell hle _, Or.inr ?_⟩
        rw [← unhide HFIN]
        refine ⟨rfl, _, rfl, ?_, hpl, by show (Hx.labs ps).length ≤ _; omega⟩
        have k1 := (unhide HOWN).kept (grown_set wr w.heap.size 0 (.int .i64 ((Hx.headJ s).1 : Int))) (own_ne (unhide HOWN) hlt3)
        have k2 := k1.kept (grown_set _ w.heap.size 1 (.int .i64 ((Hx.headK s).1 : Int))) (own_ne k1 hlt3)
        have k3 := k2.kept (grown_set _ w.heap.size 2 (.int .i64 ((Hx.headD s).1 : Int))) (own_ne k2 hlt3)
        have k4 := k3.kept (grown_set _ w.heap.size 3 (.slice ao (Hx.labs ps).length cap)) (own_ne k3 hlt3)
        have k5 := k4.kept (grown_set _ w.heap.size 4 (.int .i64 (ps.length : Int))) (own_ne k4 hlt3)
        exact own_mono k5 (by omega)
      · have HGO := hide ((unhide HOK).go rfl rfl)
        clear HOK
        have hn20 : ps.length ≤ 20 := by have := hsix rfl; omega
        have HSIX := hide (hsix rfl)
        clear hsix
        go_wp2_with fail
        refine (must_any s _ ⟨pos, false⟩ _ 59 _ hs1 hpos rfl (by omega) (unhide HHE).rd).mono ?_
        rintro e wa ⟨rfl, hra, hga⟩
        have HA := hide ((unhide HHE).call hra hga)
        have OA := hide ((unhide HOWN).kept hga (own_ne (unhide HOWN) (by omega)))
        clear hra hga HHE HOWN c1 c2
        have l4 : wa.cell? ⟨w.heap.size + 1 + 1, 4, none⟩ = some (.int .i64 (ps.length : Int)) := blk_cell (unhide HA).lo 4
        go_wp2_with fail
        clear l4
        refine (must_any s _ _ _ (97 + ps.length) _ hs1 (Hx.takeF_le (by omega) hpos) (by omega) (by omega) (unhide HA).rd).mono ?_
        rintro e wb ⟨rfl, hrb, hgb⟩
        have HLT := hide (show Hx.letterF s ps.length (Hx.takeF s 59 ⟨pos, false⟩) = Hx.takeF s (97 + ps.length) (Hx.takeF s 59 ⟨pos, false⟩) by rw [Hx.letterF, if_pos (by omega)])
        rw [← unhide HLT] at hrb
        have HB := hide ((unhide HA).call hrb hgb)
        have OB := hide ((unhide OA).kept hgb (own_ne (unhide OA) (by omega)))
        clear hrb hgb HA OA
        go_wp2_with fail
        refine (must_any s _ _ _ 61 _ hs1 (Hx.letterF_le (Hx.takeF_le (by omega) hpos)) rfl (by omega) (unhide HB).rd).mono ?_
        rintro e wc ⟨rfl, hrc, hgc⟩
        have HC : Hid (He s w wc (Hx.openF s ps.length ⟨pos, false⟩) _) := (unhide HB).call hrc hgc
        have OC := hide ((unhide OB).kept hgc (own_ne (unhide OB) (by omega)))
        clear hrc hgc HB OB
        have l4 : wc.cell? ⟨w.heap.size + 1 + 1, 4, none⟩ = some (.int .i64 (ps.length : Int)) := blk_cell (unhide HC).lo 4
        go_wp2_with fail
        clear l4
        have hxge : w.heap.size + 3 ≤ wc.heap.size := lt_of_block (unhide HC).lo
        have IN0 : Hid (In s w wc.heap.size _ _ _ _ (.slice ao (Hx.labs ps).length cap) (Hx.labs ps)) := ⟨(unhide HC).own (grown_alloc wc (.cells #[.int .i64 (ps.length : Int), .int .i64 0, .int .i64 0, .int .i64 0, .bool false, .int .i64 0, .int .i64 0, .int .i64 0, .int .i64 0, .int .i64 0] 53) none) (by simp), blk_new wc _ _, (unhide OC).alloc _, fun e => by have := ((unhide OC).lt _ e).2; omega, hxge⟩
        clear HC OC
        obtain ⟨xb, hxb⟩ : ∃ xb, xb = wc.heap.size := ⟨_, rfl⟩
        rw [← hxb] at IN0 hxge ⊢
        clear hxb
        go_loopg [9] (mO s (Hx.openF s ps.length ⟨pos, false⟩) true) (fun gk on wr2 => ∃ (st2 : Hx.St) (acc : List Hx.Stp) (v2 : Value) (ob rest : Bool) (mn mx : Nat), on = .bool ob ∧ st2.pos ≤ s.size ∧ gk = mO s st2 ob ∧ (Hx.labs ps).length + acc.length ≤ st2.pos ∧ (st2.bad = false → ob = true → (Hx.labs ps).length + acc.length + 1 ≤ st2.pos) ∧
          In s w xb wr2 st2 #[.int .i64 ((Hx.headJ s).1 : Int), .int .i64 ((Hx.headK s).1 : Int), .int .i64 ((Hx.headD s).1 : Int), v2, .int .i64 (ps.length : Int)] #[.int .i64 (ps.length : Int), .int .i64 (acc.length : Int), .int .i64 0, .int .i64 0, .bool rest, .int .i64 (mn : Int), .int .i64 (mx : Int), .int .i64 0, .int .i64 0, .int .i64 0] v2 (Hx.labs ps ++ Hx.lab ps.length acc) ∧ InnOK s ps.length ⟨pos, false⟩ st2 ob acc rest mn mx)
        case atStart =>
          refine ⟨Hx.openF s ps.length ⟨pos, false⟩, [], .slice ao (Hx.labs ps).length cap, true, false, 0, 0, rfl, Hx.openF_le hpos, rfl, start_tot htot, fun hg _ => start_tot2 htot hg, ?_, inn_start _ _ _⟩
          rw [Hx.lab_nil, List.append_nil]; exact unhide IN0
        case round =>
          clear IN0
          obtain ⟨st2, acc, v2, ob, rest, mn, mx, rfl, hpos2, rfl, htot2, htot3, hin, hinok⟩ := hrel
          obtain ⟨L, hL⟩ : ∃ L, L = Hx.labs ps ++ Hx.lab ps.length acc := ⟨_, rfl⟩
          rw [← hL] at hin
          have HL := hide hL
          have HLL := hide (show L.length = (Hx.labs ps).length + acc.length by rw [hL, List.length_append, lab_len])
          clear hL
          obtain ⟨ao2, cap2, rfl⟩ := own_form hin.ow
          have c2 := hin.he.rd.c2
          have c1 := hin.he.rd.c1
          have HIN := hide hin
          have HINOK := hide hinok
          clear hin hinok
          obtain ⟨pos2, bad2⟩ := st2
          simp only at c1 c2 hpos2 htot2 htot3
          cases bad2
          · cases ob
            · have HPF := hide ((unhide HINOK).fin rfl rfl)
              have l4 : wr.cell? ⟨w.heap.size + 1 + 1, 4, none⟩ = some (.int .i64 (ps.length : Int)) := blk_cell (unhide HIN).he.lo 4
              have lf := blk_free (unhide HIN).he.lo 4
              have h6 := six_of (unhide HPF)
              by_cases hend : pos2 < s.size
              · have hend' : (pos2 : Int) < (s.size : Int) := by omega
                go_wp2_with fail
                go_roundg (mO s ⟨pos2, false⟩ true)
                case measure => exact mO_lt (by omega) hpos2
                case rel =>
                  have I1 := (unhide HIN).setp 4 (.int .i64 ((ps.length : Int) + 1))
                  have en : (((ps ++ [acc]).length : Nat) : Int) = (ps.length : Int) + 1 := by rw [List.length_append]; rfl
                  refine ⟨⟨pos2, false⟩, ps ++ [acc], .slice ao2 L.length cap2, true, rfl, hpos2, rfl, tot_snoc htot2, ?_, ?_, ?_, ?_, out_more (unhide HGO) (unhide HPF) hend⟩
                  · rw [List.length_append]; show ps.length + 1 ≤ 121; omega
                  · intro _; rw [List.length_append]; have := unhide HSIX; show 6 * (ps.length + 1) ≤ pos2; omega
                  · rw [en]; exact I1.he
                  · rw [Hx.labs_snoc, ← unhide HL]; exact I1.ow
              · have hend' : ¬ (pos2 : Int) < (s.size : Int) := by omega
                go_wp2_with fail
                go_roundg (mO s ⟨pos2, false⟩ false)
                case measure => exact mO_zero (Or.inr rfl)
                case rel =>
                  have I1 := (unhide HIN).setp 4 (.int .i64 ((ps.length : Int) + 1))
                  have en : (((ps ++ [acc]).length : Nat) : Int) = (ps.length : Int) + 1 := by rw [List.length_append]; rfl
                  refine ⟨⟨pos2, false⟩, ps ++ [acc], .slice ao2 L.length cap2, false, rfl, hpos2, rfl, tot_snoc htot2, ?_, ?_, ?_, ?_, out_end (unhide HGO) (unhide HPF) (by omega)⟩
                  · rw [List.length_append]; show ps.length + 1 ≤ 121; omega
                  · intro _; rw [List.length_append]; have := unhide HSIX; show 6 * (ps.length + 1) ≤ pos2; omega
                  · rw [en]; exact I1.he
                  · rw [Hx.labs_snoc, ← unhide HL]; exact I1.ow
            · have HGO2 := hide ((unhide HINOK).go rfl rfl)
              have ht3 := htot3 rfl rfl
              clear HINOK htot3 htot2
              go_wp2_with fail
              refine (refnum_any s _ ⟨pos2, false⟩ _ 3 _ hs1 hpos2 (by omega) (by omega) rfl (unhide HIN).he.rd).mono ?_
              rintro e w7 ⟨rfl, hr7, hg7⟩
              have I7 := hide ((unhide HIN).call hr7 hg7)
              clear hr7 hg7 HIN c1 c2
              have P7 : Hid ((Hx.numF s 3 ⟨pos2, false⟩).2.pos ≤ s.size) := Hx.numF_le hpos2
              have x2 : w7.cell? ⟨xb, 2, none⟩ = some (.int .i64 0) := blk_cell (unhide I7).xx 2
              have xf := blk_free (unhide I7).xx
              go_wp2_with fail
              have I8 : Hid (In s w xb _ _ _ #[.int .i64 (ps.length : Int), .int .i64 (acc.length : Int), .int .i64 ((Hx.numF s 3 ⟨pos2, false⟩).1 : Int), .int .i64 0, .bool rest, .int .i64 (mn : Int), .int .i64 (mx : Int), .int .i64 0, .int .i64 0, .int .i64 0] _ _) := (unhide I7).setx 2 (.int .i64 ((Hx.numF s 3 ⟨pos2, false⟩).1 : Int))
              clear I7 x2 xf
              refine (must_any s _ _ _ 45 _ hs1 P7.out rfl (by omega) (unhide I8).he.rd).mono ?_
              rintro e w9 ⟨rfl, hr9, hg9⟩
              have I9 := hide ((unhide I8).call hr9 hg9)
              clear hr9 hg9 I8
              go_wp2_with fail
              refine (refnum_any s _ _ _ 3 _ hs1 (Hx.takeF_le (by omega) P7.out) (by omega) (by omega) rfl (unhide I9).he.rd).mono ?_
              rintro e w10 ⟨rfl, hr10, hg10⟩
              have I10 := hide ((unhide I9).call hr10 hg10)
              clear hr10 hg10 I9
              have x3 : w10.cell? ⟨xb, 3, none⟩ = some (.int .i64 0) := blk_cell (unhide I10).xx 3
              have xf := blk_free (unhide I10).xx
              go_upto_region 23 with fail
              have I11 : Hid (In s w xb _ _ _ #[.int .i64 (ps.length : Int), .int .i64 (acc.length : Int), .int .i64 ((Hx.numF s 3 ⟨pos2, false⟩).1 : Int), .int .i64 ((Hx.numF s 3 (Hx.takeF s 45 (Hx.numF s 3 ⟨pos2, false⟩).2)).1 : Int), .bool rest, .int .i64 (mn : Int), .int .i64 (mx : Int), .int .i64 0, .int .i64 0, .int .i64 0] _ _) := (unhide I10).setx 3 (.int .i64 ((Hx.numF s 3 (Hx.takeF s 45 (Hx.numF s 3 ⟨pos2, false⟩).2)).1 : Int))
              clear I10 x3 xf
              have HGO3 : Hid (Hx.afterF s (Hx.numF s 3 (Hx.takeF s 45 (Hx.numF s 3 ⟨pos2, false⟩).2)).2 (acc ++ [⟨(Hx.numF s 3 ⟨pos2, false⟩).1, (Hx.numF s 3 (Hx.takeF s 45 (Hx.numF s 3 ⟨pos2, false⟩).2)).1, rest, mn, mx⟩]) = Hx.plateF s ps.length ⟨pos, false⟩) := unhide HGO2
              have P10 : (Hx.numF s 3 (Hx.takeF s 45 (Hx.numF s 3 ⟨pos2, false⟩).2)).2.pos ≤ s.size := Hx.numF_le (Hx.takeF_le (by omega) P7.out)
              have G10 : pos2 ≤ (Hx.numF s 3 (Hx.takeF s 45 (Hx.numF s 3 ⟨pos2, false⟩).2)).2.pos := Hx.boundsF_ge s ⟨pos2, false⟩
              clear HGO2 P7
              generalize Hx.numF s 3 (Hx.takeF s 45 (Hx.numF s 3 ⟨pos2, false⟩).2) = b3 at *
              generalize Hx.numF s 3 ⟨pos2, false⟩ = b1 at *
              obtain ⟨hi, st3⟩ := b3
              obtain ⟨lo, st1⟩ := b1
              simp only at I11 HGO3 P10 G10
              generalize w10.setCell { block := xb, off := 3 } (Value.int IntKind.i64 ↑hi) = w11 at *
              have l3 : w11.cell? ⟨w.heap.size + 1 + 1, 3, none⟩ = some (.slice ao2 L.length cap2) := blk_cell (unhide I11).he.lo 3
              have x0 : w11.cell? ⟨xb, 0, none⟩ = some (.int .i64 (ps.length : Int)) := blk_cell (unhide I11).xx 0
              have x1 : w11.cell? ⟨xb, 1, none⟩ = some (.int .i64 (acc.length : Int)) := blk_cell (unhide I11).xx 1
              have x2 : w11.cell? ⟨xb, 2, none⟩ = some (.int .i64 (lo : Int)) := blk_cell (unhide I11).xx 2
              have x3 : w11.cell? ⟨xb, 3, none⟩ = some (.int .i64 (hi : Int)) := blk_cell (unhide I11).xx 3
              have x4 : w11.cell? ⟨xb, 4, none⟩ = some (.bool rest) := blk_cell (unhide I11).xx 4
              have x5 : w11.cell? ⟨xb, 5, none⟩ = some (.int .i64 (mn : Int)) := blk_cell (unhide I11).xx 5
              have x6 : w11.cell? ⟨xb, 6, none⟩ = some (.int .i64 (mx : Int)) := blk_cell (unhide I11).xx 6
              have x7 : w11.cell? ⟨xb, 7, none⟩ = some (.int .i64 0) := blk_cell (unhide I11).xx 7
              have x8 : w11.cell? ⟨xb, 8, none⟩ = some (.int .i64 0) := blk_cell (unhide I11).xx 8
              have x9 : w11.cell? ⟨xb, 9, none⟩ = some (.int .i64 0) := blk_cell (unhide I11).xx 9
              have hsz11 : w.heap.size + 3 ≤ w11.heap.size := lt_of_block (unhide I11).he.lo
              go_upto_region 24 with (at_builtin; refine wpList_append_own2 _ rfl _ _ 47 rfl (w.heap.size + 3) 53 i0 (.agg #[.int .i64 0, .int .i64 0, .int .i64 0, .int .i64 0, .bool false, .int .i64 0, .int .i64 0, .int .i64 0, .int .i64 0, .int .i64 0]) 10 80 Tryz.underlying47 (unhide HI) (unhide HZ0) (unhide HZ1) (unhide HZ2) rfl (by decide) _ _ _ rfl ((unhide I11).alloc _).ow ⟨w11.heap.size, 0, none⟩ 1 1 (lstCells ⟨ps.length, acc.length, ⟨lo, hi, rest, mn, mx⟩⟩) rfl rfl (news_new w11 (lstCells ⟨ps.length, acc.length, ⟨lo, hi, rest, mn, mx⟩⟩) 53) (lstCells_one _) (by have := unhide HLL; unfold maxLen; omega) (by have := unhide HLL; omega) (by simp; omega) ?_; intro v' w12 hown' hgrow' hv'; obtain ⟨ao3, cap3, rfl⟩ := own_form hown'; have I12 := hide (((unhide I11).alloc (.cells (lstCells ⟨ps.length, acc.length, ⟨lo, hi, rest, mn, mx⟩⟩).toArray 53)).app hown' hgrow' hv'); clear hown' hgrow' hv'; have l3' : w12.cell? ⟨w.heap.size + 1 + 1, 3, none⟩ = some (.slice ao2 L.length cap2) := blk_cell (unhide I12).he.lo 3; have lf' := blk_free (unhide I12).he.lo 3)
              have I13 : Hid (In s w xb _ _ #[.int .i64 ((Hx.headJ s).1 : Int), .int .i64 ((Hx.headK s).1 : Int), .int .i64 ((Hx.headD s).1 : Int), .slice ao3 (L.length + 1) cap3, .int .i64 (ps.length : Int)] _ (.slice ao3 (L.length + 1) cap3) (L ++ [⟨ps.length, acc.length, ⟨lo, hi, rest, mn, mx⟩⟩])) := (unhide I12).setp 3 (.slice ao3 (L.length + 1) cap3)
              generalize w12.setCell { block := w.heap.size + 1 + 1, off := 3 } (Value.slice ao3 (L.length + 1) cap3) = w13 at *
              clear I11 I12 l3 l3' lf' x0 x1 x2 x3 x4 x5 x6 x7 x8 x9
              have l4 : w13.cell? ⟨w.heap.size + 1 + 1, 4, none⟩ = some (.int .i64 (ps.length : Int)) := blk_cell (unhide I13).he.lo 4
              have x0 : w13.cell? ⟨xb, 0, none⟩ = some (.int .i64 (ps.length : Int)) := blk_cell (unhide I13).xx 0
              have x1 : w13.cell? ⟨xb, 1, none⟩ = some (.int .i64 (acc.length : Int)) := blk_cell (unhide I13).xx 1
              have x2 : w13.cell? ⟨xb, 2, none⟩ = some (.int .i64 (lo : Int)) := blk_cell (unhide I13).xx 2
              have x3 : w13.cell? ⟨xb, 3, none⟩ = some (.int .i64 (hi : Int)) := blk_cell (unhide I13).xx 3
              have x4 : w13.cell? ⟨xb, 4, none⟩ = some (.bool rest) := blk_cell (unhide I13).xx 4
              have x5 : w13.cell? ⟨xb, 5, none⟩ = some (.int .i64 (mn : Int)) := blk_cell (unhide I13).xx 5
              have x6 : w13.cell? ⟨xb, 6, none⟩ = some (.int .i64 (mx : Int)) := blk_cell (unhide I13).xx 6
              have x7 : w13.cell? ⟨xb, 7, none⟩ = some (.int .i64 0) := blk_cell (unhide I13).xx 7
              have x8 : w13.cell? ⟨xb, 8, none⟩ = some (.int .i64 0) := blk_cell (unhide I13).xx 8
              have x9 : w13.cell? ⟨xb, 9, none⟩ = some (.int .i64 0) := blk_cell (unhide I13).xx 9
              have xf := blk_free (unhide I13).xx
              have hacc : acc.length ≤ 120 := by omega
              go_upto_region 25 with fail
              clear l4 x0 x1 x2 x3 x4 x5 x6 x7 x8 x9 xf
              have I14 := hide ((unhide I13).set10 (.int .i64 (ps.length : Int)) (.int .i64 ((acc.length : Int) + 1)) (.int .i64 0) (.int .i64 0) (.bool false) (.int .i64 0) (.int .i64 0) (.int .i64 0) (.int .i64 0) (.int .i64 0))
              clear I13
              generalize ((((((((((w13.setCell ⟨xb, 0, none⟩ (.int .i64 (ps.length : Int))).setCell ⟨xb, 1, none⟩ (.int .i64 ((acc.length : Int) + 1))).setCell ⟨xb, 2, none⟩ (.int .i64 0)).setCell ⟨xb, 3, none⟩ (.int .i64 0)).setCell ⟨xb, 4, none⟩ (.bool false)).setCell ⟨xb, 5, none⟩ (.int .i64 0)).setCell ⟨xb, 6, none⟩ (.int .i64 0)).setCell ⟨xb, 7, none⟩ (.int .i64 0)).setCell ⟨xb, 8, none⟩ (.int .i64 0)).setCell ⟨xb, 9, none⟩ (.int .i64 0)) = w14 at I14 ⊢
              have HT2 : Hid ((Hx.labs ps).length + (acc ++ [(⟨lo, hi, rest, mn, mx⟩ : Hx.Stp)]).length ≤ pos2) := by
                show _ ≤ _
                rw [List.length_append]
                show (Hx.labs ps).length + (acc.length + 1) ≤ pos2
                omega
              have HLS : Hid (Hx.labs ps ++ Hx.lab ps.length (acc ++ [⟨lo, hi, rest, mn, mx⟩]) = L ++ [⟨ps.length, acc.length, ⟨lo, hi, rest, mn, mx⟩⟩]) := by
                show _ = _
                rw [Hx.lab_snoc, unhide HL, List.append_assoc]
              have HAL : Hid ((((acc ++ [(⟨lo, hi, rest, mn, mx⟩ : Hx.Stp)]).length : Nat) : Int) = (acc.length : Int) + 1) := by
                show _ = _
                rw [List.length_append]; rfl
              clear HL HLL
              by_cases h44 : st3.bad = false ∧ Hx.byteAt s st3.pos = 44
              · obtain ⟨p3, b3⟩ := st3
                simp only at h44 P10 G10 HGO3
                obtain ⟨rfl, h44⟩ := h44
                have HOK2 := hide (inn_comma (unhide HGO3) h44)
                have H44 := hide h44
                have hin3 : p3 < s.size := Hx.byteAt_in (by omega)
                clear h44 HGO3
                go_wp2_with fail
                refine (next_yes s _ p3 _ 44 _ hs1 rfl (by omega) (unhide H44) (unhide I14).he.rd).mono ?_
                rintro e w15 ⟨rfl, hr15, hg15⟩
                have I15 := hide ((unhide I14).call hr15 hg15)
                clear hr15 hg15 I14
                go_wp2_with fail
                go_roundg (mO s ⟨p3 + 1, false⟩ true)
                case measure => exact mO_lt (by omega) hin3
                case rel =>
                  refine ⟨⟨p3 + 1, false⟩, acc ++ [⟨lo, hi, rest, mn, mx⟩], .slice ao3 (L.length + 1) cap3, true, false, 0, 0, rfl, hin3, rfl, ?_, ?_, ?_, unhide HOK2⟩
                  · have := unhide HT2; show _ ≤ p3 + 1; omega
                  · intro _ _; have := unhide HT2; show _ + 1 ≤ p3 + 1; omega
                  · rw [unhide HLS, unhide HAL]; exact unhide I15
              · by_cases h126 : st3.bad = false ∧ Hx.byteAt s st3.pos = 126
                · obtain ⟨p3, b3⟩ := st3
                  simp only at h126 P10 G10 HGO3
                  obtain ⟨rfl, h126⟩ := h126
                  have HOK2 : Hid (InnOK s ps.length ⟨pos, false⟩ (Hx.takeF s 126 (Hx.numF s 3 (Hx.takeF s 45 (Hx.numF s 3 ⟨p3 + 1, false⟩).2)).2) true (acc ++ [⟨lo, hi, rest, mn, mx⟩]) true (Hx.numF s 3 ⟨p3 + 1, false⟩).1 (Hx.numF s 3 (Hx.takeF s 45 (Hx.numF s 3 ⟨p3 + 1, false⟩).2)).1) := inn_rest (unhide HGO3) h126
                  have H126 := hide h126
                  have HN1 : Hid ((false : Bool) = true ∨ Hx.byteAt s p3 ≠ 44) := Or.inr (by omega)
                  have hin3 : p3 + 1 ≤ s.size := Hx.byteAt_in (by omega)
                  clear h126 h44 HGO3
                  have P16 : Hid ((Hx.numF s 3 ⟨p3 + 1, false⟩).2.pos ≤ s.size) := Hx.numF_le hin3
                  have P17 : Hid ((Hx.numF s 3 (Hx.takeF s 45 (Hx.numF s 3 ⟨p3 + 1, false⟩).2)).2.pos ≤ s.size) := Hx.numF_le (Hx.takeF_le (by omega) P16.out)
                  have PF : Hid ((Hx.takeF s 126 (Hx.numF s 3 (Hx.takeF s 45 (Hx.numF s 3 ⟨p3 + 1, false⟩).2)).2).pos ≤ s.size) := Hx.takeF_le (by omega) P17.out
                  have GF : Hid (p3 + 1 ≤ (Hx.takeF s 126 (Hx.numF s 3 (Hx.takeF s 45 (Hx.numF s 3 ⟨p3 + 1, false⟩).2)).2).pos) := Nat.le_trans (Hx.boundsF_ge s ⟨p3 + 1, false⟩) (Hx.takeF_ge s 126 _)
                  go_wp2_with fail
                  refine (next_no s _ ⟨p3, false⟩ _ 44 _ hs1 P10 rfl (by omega) (unhide HN1) (unhide I14).he.rd).mono ?_
                  rintro e w15 ⟨rfl, hr15, hg15⟩
                  have I15 := hide ((unhide I14).call hr15 hg15)
                  clear hr15 hg15 I14
                  go_wp2_with fail
                  refine (next_yes s _ p3 _ 126 _ hs1 rfl (by omega) (unhide H126) (unhide I15).he.rd).mono ?_
                  rintro e w16 ⟨rfl, hr16, hg16⟩
                  have I16 := hide ((unhide I15).call hr16 hg16)
                  clear hr16 hg16 I15
                  have x4 : w16.cell? ⟨xb, 4, none⟩ = some (.bool false) := blk_cell (unhide I16).xx 4
                  have xf := blk_free (unhide I16).xx
                  go_wp2_with fail
                  have I17 : Hid (In s w xb _ _ _ #[.int .i64 (ps.length : Int), .int .i64 ((acc.length : Int) + 1), .int .i64 0, .int .i64 0, .bool true, .int .i64 0, .int .i64 0, .int .i64 0, .int .i64 0, .int .i64 0] _ _) := (unhide I16).setx 4 (.bool true)
                  clear I16 x4 xf
                  refine (refnum_any s _ ⟨p3 + 1, false⟩ _ 3 _ hs1 hin3 (by omega) (by omega) rfl (unhide I17).he.rd).mono ?_
                  rintro e w18 ⟨rfl, hr18, hg18⟩
                  have I18 := hide ((unhide I17).call hr18 hg18)
                  clear hr18 hg18 I17
                  have x5 : w18.cell? ⟨xb, 5, none⟩ = some (.int .i64 0) := blk_cell (unhide I18).xx 5
                  have xf := blk_free (unhide I18).xx
                  go_wp2_with fail
                  have I19 : Hid (In s w xb _ _ _ #[.int .i64 (ps.length : Int), .int .i64 ((acc.length : Int) + 1), .int .i64 0, .int .i64 0, .bool true, .int .i64 ((Hx.numF s 3 ⟨p3 + 1, false⟩).1 : Int), .int .i64 0, .int .i64 0, .int .i64 0, .int .i64 0] _ _) := (unhide I18).setx 5 (.int .i64 ((Hx.numF s 3 ⟨p3 + 1, false⟩).1 : Int))
                  clear I18 x5 xf
                  refine (must_any s _ _ _ 45 _ hs1 P16.out rfl (by omega) (unhide I19).he.rd).mono ?_
                  rintro e w20 ⟨rfl, hr20, hg20⟩
                  have I20 := hide ((unhide I19).call hr20 hg20)
                  clear hr20 hg20 I19
                  go_wp2_with fail
                  refine (refnum_any s _ _ _ 3 _ hs1 (Hx.takeF_le (by omega) P16.out) (by omega) (by omega) rfl (unhide I20).he.rd).mono ?_
                  rintro e w21 ⟨rfl, hr21, hg21⟩
                  have I21 := hide ((unhide I20).call hr21 hg21)
                  clear hr21 hg21 I20
                  have x6 : w21.cell? ⟨xb, 6, none⟩ = some (.int .i64 0) := blk_cell (unhide I21).xx 6
                  have xf := blk_free (unhide I21).xx
                  go_wp2_with fail
                  have I22 : Hid (In s w xb _ _ _ #[.int .i64 (ps.length : Int), .int .i64 ((acc.length : Int) + 1), .int .i64 0, .int .i64 0, .bool true, .int .i64 ((Hx.numF s 3 ⟨p3 + 1, false⟩).1 : Int), .int .i64 ((Hx.numF s 3 (Hx.takeF s 45 (Hx.numF s 3 ⟨p3 + 1, false⟩).2)).1 : Int), .int .i64 0, .int .i64 0, .int .i64 0] _ _) := (unhide I21).setx 6 (.int .i64 ((Hx.numF s 3 (Hx.takeF s 45 (Hx.numF s 3 ⟨p3 + 1, false⟩).2)).1 : Int))
                  clear I21 x6 xf
                  refine (must_any s _ _ _ 126 _ hs1 P17.out rfl (by omega) (unhide I22).he.rd).mono ?_
                  rintro e w23 ⟨rfl, hr23, hg23⟩
                  have I23 := hide ((unhide I22).call hr23 hg23)
                  clear hr23 hg23 I22
                  go_wp2_with fail
                  go_roundg (mO s (Hx.takeF s 126 (Hx.numF s 3 (Hx.takeF s 45 (Hx.numF s 3 ⟨p3 + 1, false⟩).2)).2) true)
                  case measure => exact mO_any (fun _ _ => by have := unhide GF; omega) (unhide PF)
                  case rel =>
                    refine ⟨Hx.takeF s 126 (Hx.numF s 3 (Hx.takeF s 45 (Hx.numF s 3 ⟨p3 + 1, false⟩).2)).2, acc ++ [⟨lo, hi, rest, mn, mx⟩], .slice ao3 (L.length + 1) cap3, true, true, (Hx.numF s 3 ⟨p3 + 1, false⟩).1, (Hx.numF s 3 (Hx.takeF s 45 (Hx.numF s 3 ⟨p3 + 1, false⟩).2)).1, rfl, unhide PF, rfl, ?_, ?_, ?_, unhide HOK2⟩
                    · have := unhide HT2; have := unhide GF; omega
                    · intro _ _; have := unhide HT2; have := unhide GF; omega
                    · rw [unhide HLS, unhide HAL]; exact unhide I23
                · have hst : st3.bad = true ∨ (Hx.byteAt s st3.pos ≠ 44 ∧ Hx.byteAt s st3.pos ≠ 126) := by
                    cases hb : st3.bad
                    · exact Or.inr ⟨fun e => h44 ⟨hb, e⟩, fun e => h126 ⟨hb, e⟩⟩
                    · exact Or.inl rfl
                  have HOK2 := hide (inn_stop (unhide HGO3) hst)
                  have HN1 : Hid (st3.bad = true ∨ Hx.byteAt s st3.pos ≠ 44) := by rcases hst with h | h; exact Or.inl h; exact Or.inr h.1
                  have HN2 : Hid (st3.bad = true ∨ Hx.byteAt s st3.pos ≠ 126) := by rcases hst with h | h; exact Or.inl h; exact Or.inr h.2
                  clear h44 h126 hst HGO3
                  go_wp2_with fail
                  refine (next_no s _ st3 _ 44 _ hs1 P10 rfl (by omega) (unhide HN1) (unhide I14).he.rd).mono ?_
                  rintro e w15 ⟨rfl, hr15, hg15⟩
                  have I15 := hide ((unhide I14).call hr15 hg15)
                  clear hr15 hg15 I14
                  go_wp2_with fail
                  refine (next_no s _ st3 _ 126 _ hs1 P10 rfl (by omega) (unhide HN2) (unhide I15).he.rd).mono ?_
                  rintro e w16 ⟨rfl, hr16, hg16⟩
                  have I16 := hide ((unhide I15).call hr16 hg16)
                  clear hr16 hg16 I15
                  go_wp2_with fail
                  go_roundg (mO s st3 false)
                  case measure => exact mO_zero (Or.inr rfl)
                  case rel =>
                    refine ⟨st3, acc ++ [⟨lo, hi, rest, mn, mx⟩], .slice ao3 (L.length + 1) cap3, false, false, 0, 0, rfl, P10, rfl, ?_, fun _ h => (by cases h), ?_, unhide HOK2⟩
                    · have := unhide HT2; omega
                    · rw [unhide HLS, unhide HAL]; exact unhide I16
          · have HPF := hide ((unhide HINOK).bad rfl)
            have l4 : wr.cell? ⟨w.heap.size + 1 + 1, 4, none⟩ = some (.int .i64 (ps.length : Int)) := blk_cell (unhide HIN).he.lo 4
            have lf := blk_free (unhide HIN).he.lo 4
            cases ob
            all_goals
              go_wp2_with fail
              go_roundg (mO s ⟨pos2, true⟩ (decide (pos2 < s.size)))
              case measure => exact mO_zero (Or.inl rfl)
              case rel =>
                have I1 := (unhide HIN).setp 4 (.int .i64 ((ps.length : Int) + 1))
                have en : (((ps ++ [acc]).length : Nat) : Int) = (ps.length : Int) + 1 := by rw [List.length_append]; rfl
                refine ⟨⟨pos2, true⟩, ps ++ [acc], .slice ao2 L.length cap2, decide (pos2 < s.size), by simp, hpos2, rfl, tot_snoc htot2, ?_, fun h => (by cases h), ?_, ?_, out_bad (unhide HGO) (unhide HPF)⟩
                · rw [List.length_append]; show ps.length + 1 ≤ 121; omega
                · rw [en]; exact I1.he
                · rw [Hx.labs_snoc, ← unhide HL]; exact I1.ow
    · have HFIN := hide ((unhide HOK).bad rfl)
      have l0 : wr.cell? ⟨w.heap.size + 1 + 1, 0, none⟩ = some (.int .i64 ((Hx.headJ s).1 : Int)) := blk_cell (unhide HHE).lo 0
      have l1 : wr.cell? ⟨w.heap.size + 1 + 1, 1, none⟩ = some (.int .i64 ((Hx.headK s).1 : Int)) := blk_cell (unhide HHE).lo 1
      have l2 : wr.cell? ⟨w.heap.size + 1 + 1, 2, none⟩ = some (.int .i64 ((Hx.headD s).1 : Int)) := blk_cell (unhide HHE).lo 2
      have l3 : wr.cell? ⟨w.heap.size + 1 + 1, 3, none⟩ = some (.slice ao (Hx.labs ps).length cap) := blk_cell (unhide HHE).lo 3
      have l4 : wr.cell? ⟨w.heap.size + 1 + 1, 4, none⟩ = some (.int .i64 (ps.length : Int)) := blk_cell (unhide HHE).lo 4
      have e0 : wr.cell? ⟨w.heap.size, 0, none⟩ = some (.int .i64 0) := blk_cell (unhide HHE).re 0
      have e1 : wr.cell? ⟨w.heap.size, 1, none⟩ = some (.int .i64 0) := blk_cell (unhide HHE).re 1
      have e2 : wr.cell? ⟨w.heap.size, 2, none⟩ = some (.int .i64 0) := blk_cell (unhide HHE).re 2
      have e3 : wr.cell? ⟨w.heap.size, 3, none⟩ = some (.slice none 0 0) := blk_cell (unhide HHE).re 3
      have e4 : wr.cell? ⟨w.heap.size, 4, none⟩ = some (.int .i64 0) := blk_cell (unhide HHE).re 4
      have ef := blk_free (unhide HHE).re
      cases mb
      all_goals
        go_wp2_with fail
        go_region
        all_goals
          go_wp2_with fail
          refine bodyPost_ret (v := .tuple #[.agg #[.int .i64 ((Hx.headJ s).1 : Int), .int .i64 ((Hx.headK s).1 : Int), .int .i64 ((Hx.headD s).1 : Int), .slice ao (Hx.labs ps).length cap, .int .i64 (ps.length : Int)], .int .i64 (pos : Int)]) (by simp [results, Tryz.results16, go_sem, e0, e1, e2, e3, e4]) rfl ?_
          have hle := Nat.le_refl w.heap.size
          refine ⟨?_, Or.inl ?_⟩
          · first
              | exact ((((((unhide HHE).be.setCell hle _).setCell hle _).setCell hle _).setCell hle _).setCell hle _).drew
              | exact (((((unhide HHE).be.drew.setCell hle _).setCell hle _).setCell hle _).setCell hle _).setCell hle _
          · rw [unhide HFIN]
            exact ⟨rfl, _, _, _, _, rfl⟩

end Go.Proofs.YtppcnlkhdgmaiabGreatDoor
