/- What finish does. -/
import Derived.Test.YtppcnlkhdgmaiaaDoorCRmA
namespace Go.Proofs.YtppcnlkhdgmaiaaDoor
open Go.RowKit

/-- The step that is read into a block of its own. -/
abbrev ptArr (y : Hx.TStp) : Array Value := #[.int .i64 (y.lo : Int), .int .i64 (y.hi : Int), .bool y.rest, .int .i64 (y.mn : Int), .int .i64 (y.mx : Int), .int .i64 (y.pl : Int), .int .i64 (y.no : Int), .bool (decide (0 ≤ y.inn)), .int .i64 (y.t : Int), .int .i64 y.out, .int .i64 y.inn]

theorem pt_cells {w : World} {g n cap : Nat} {l : List Hx.TStp} {k : Nat} {y : Hx.TStp} (h : w.ownsRow 0 153 11 (.slice (some ⟨g, 0, none⟩) n cap) n (ptsCells l)) (hn : n = l.length) (hy : l[k]? = some y) :
    w.cell? ⟨g, k * 11, none⟩ = some (.int .i64 (y.lo : Int)) ∧ w.cell? ⟨g, k * 11 + 1, none⟩ = some (.int .i64 (y.hi : Int)) ∧ w.cell? ⟨g, k * 11 + 2, none⟩ = some (.bool y.rest) ∧ w.cell? ⟨g, k * 11 + 3, none⟩ = some (.int .i64 (y.mn : Int)) ∧ w.cell? ⟨g, k * 11 + 4, none⟩ = some (.int .i64 (y.mx : Int)) ∧ w.cell? ⟨g, k * 11 + 5, none⟩ = some (.int .i64 (y.pl : Int)) ∧ w.cell? ⟨g, k * 11 + 6, none⟩ = some (.int .i64 (y.no : Int)) ∧ w.cell? ⟨g, k * 11 + 7, none⟩ = some (.bool (decide (0 ≤ y.inn))) ∧ w.cell? ⟨g, k * 11 + 8, none⟩ = some (.int .i64 (y.t : Int)) ∧ w.cell? ⟨g, k * 11 + 9, none⟩ = some (.int .i64 y.out) ∧ w.cell? ⟨g, k * 11 + 10, none⟩ = some (.int .i64 y.inn) := by
  have cx : ∀ t, t < 11 → w.cell? ⟨g, k * 11 + t, none⟩ = (ptCells y)[t]? := fun t ht => own_pt h hn k y hy t ht
  exact ⟨cx 0 (by omega), cx 1 (by omega), cx 2 (by omega), cx 3 (by omega), cx 4 (by omega), cx 5 (by omega), cx 6 (by omega), cx 7 (by omega), cx 8 (by omega), cx 9 (by omega), cx 10 (by omega)⟩

theorem cS {w : World} {b i g j : Nat} {v x : Value} (hne : b ≠ g) (h : w.cell? ⟨b, i, none⟩ = some v) : (w.setCell ⟨g, j, none⟩ x).cell? ⟨b, i, none⟩ = some v := (grown_set w g j x).cell h (by simpa using hne)
theorem Mem.setSts {h w0 w m sv xs} (x : Mem h w0 w m sv xs) {sts' : List (Nat × Option Nat)} (hl : sts'.length = m.sts.length) : Mem h w0 w { m with sts := sts' } sv xs := ⟨x.blk, by rw [show ({ m with sts := sts' } : Hx.Ms).sts.length = m.sts.length from hl]; exact x.row, x.gr⟩
theorem machL_rb (h : Mh) (m : Hx.Ms) (sv : Value) (p v : Nat) : (machL h m sv).set (8 + p) (.int .i64 ((v : Nat) : Int)) = machL h { m with rb := m.rb.set p (v : Int) } sv := by
  unfold machL
  rw [List.set_append_right _ _ (by simp)]
  simp [ints, List.map_set]
theorem Mem.done {h w0 w m sv xs} (x : Mem h w0 w m sv xs) (s : Stat h w0) : Mem h w0 ((w.setCell ⟨h.b, 6, none⟩ (.bool false)).setCell ⟨h.b, 5, none⟩ (.int .i64 ((m.k : Int) + 1))) { m with work := false, k := m.k + 1 } sv xs := by
  have h1 := x.put s 6 (.bool false) { m with work := false } sv rfl x.row
  exact h1.put s 5 (.int .i64 ((m.k : Int) + 1)) { m with work := false, k := m.k + 1 } sv rfl h1.row
/-- A cell of the row of stints is stored into. -/
theorem Mem.stint {h w0 w m g n cap xs} (x : Mem h w0 w m (.slice (some ⟨g, 0, none⟩) n cap) xs) (hn : n = m.sts.length) (s : Stat h w0) (j : Nat) (v : Value) : Mem h w0 (w.setCell ⟨g, j, none⟩ v) m (.slice (some ⟨g, 0, none⟩) n cap) (xs.set j v) := by
  subst hn
  have hg := x.row.lt g rfl
  have hlt := s.lt
  refine ⟨blk_set_other x.blk (by omega) _ _, (x.row.stored j v).1, ?_⟩
  exact grown_set_new x.gr hg.1 _ _

set_option maxRecDepth 100000 in
set_option maxHeartbeats 4000000 in
theorem finish_any (h : Mh) (w0 w : World) (m : Hx.Ms) (sv : Value) (x : Hx.TStp) (tk b0 : Nat) (o0 : Option Nat) (hs : Stat h w0) (hm : Mem h w0 w m sv (stsCells m.sts)) (hx : h.l[m.k]? = some x) (htk : h.takes[m.k]? = some tk) (hp : m.sts[m.k]? = some (b0, o0)) (hn : MN m) :
    Calls Tryd.prog 82 #[.pointer (some ⟨h.b, 0, none⟩)] w fun e w' => e = .returned (.int .i64 (((Hx.finishM x tk m).1.getD 0 : Nat) : Int)) ∧ ∃ sv', Mem h w0 w' (Hx.finishM x tk m).2 sv' (stsCells (Hx.finishM x tk m).2.sts) := by
  have hkl : m.k < h.l.length := (List.getElem?_eq_some_iff.1 hx).1
  have hks : m.k < m.sts.length := (List.getElem?_eq_some_iff.1 hp).1
  have hkt : m.k < h.takes.length := (List.getElem?_eq_some_iff.1 htk).1
  have hll := hs.ll
  have hxok := hs.ok x (List.mem_of_getElem? hx)
  have hpl := hxok.pl
  have htk1 := hs.kn tk (List.mem_of_getElem? htk)
  have hb1 := hn.sts _ (List.mem_of_getElem? hp)
  simp only at hb1
  have hslen := hn.len
  have hrb := hn.rb
  have hbeg : Hx.beganM m = b0 := by rw [Hx.beganM, List.getD_eq_getElem?_getD, hp]; rfl
  obtain ⟨gt, capt, etv, _, hgt⟩ := own_pos (hm.t hs) (by omega)
  obtain ⟨gk, capk, ekv, _, hgk⟩ := own_pos (hm.tk hs) (by omega)
  obtain ⟨g, cap, rfl, hg1, hg2⟩ := own_pos hm.row (by omega)
  have HS := hide hs
  have HM := hide hm
  have HX := hide hx
  have HTK := hide htk
  have HP := hide hp
  have HBEG := hide hbeg
  have HET := hide etv
  have HEK := hide ekv
  have hm1 : w.cell? ⟨h.b, 1, none⟩ = some h.tv := blk_cell hm.blk 1
  have hm5 : w.cell? ⟨h.b, 5, none⟩ = some (.int .i64 (m.k : Int)) := blk_cell hm.blk 5
  rw [etv] at hm1
  have hrow := hm.t hs
  rw [etv] at hrow
  obtain ⟨x0, x1, x2, x3, x4, x5, x6, x7, x8, x9, x10⟩ := pt_cells hrow rfl hx
  have hkI : (m.k : Int) < (h.l.length : Int) := by omega
  have hk0 : (0 : Int) ≤ (m.k : Int) := by omega
  obtain ⟨R, hR⟩ : ∃ R : Ending → World → Prop, R = fun e w' => e = .returned (.int .i64 (((Hx.finishM x tk m).1.getD 0 : Nat) : Int)) ∧ ∃ sv', Mem h w0 w' (Hx.finishM x tk m).2 sv' (stsCells (Hx.finishM x tk m).2.sts) := ⟨_, rfl⟩
  rw [← hR]
  have HR := hide hR
  clear hs hm hx htk hp hbeg etv ekv hrow hn hR hxok
  go_enter Tryd.func82, Tryd.ntmps82
  go_upto_region 1 with fail
  go_cut [3] (fun s3 wc => ∃ tb, s3 = .pointer (some ⟨tb, 0, none⟩) ∧ wc.heap[tb]? = some (.cells (ptArr x) 153 (0, 0)) ∧ w.heap.size ≤ tb ∧ Mem h w0 wc m (.slice (some ⟨g, 0, none⟩) m.sts.length cap) (stsCells m.sts))
  case first =>
    go_region_held3 (fun w' => w'.cell? ⟨h.b, 1, none⟩ = some (.slice (some ⟨gt, 0, none⟩) h.l.length capt) ∧ w'.cell? ⟨h.b, 5, none⟩ = some (.int .i64 (m.k : Int)) ∧ w'.cell? ⟨gt, m.k * 11, none⟩ = some (.int .i64 (x.lo : Int)) ∧ w'.cell? ⟨gt, m.k * 11 + 1, none⟩ = some (.int .i64 (x.hi : Int)) ∧ w'.cell? ⟨gt, m.k * 11 + 2, none⟩ = some (.bool x.rest) ∧ w'.cell? ⟨gt, m.k * 11 + 3, none⟩ = some (.int .i64 (x.mn : Int)) ∧ w'.cell? ⟨gt, m.k * 11 + 4, none⟩ = some (.int .i64 (x.mx : Int)) ∧ w'.cell? ⟨gt, m.k * 11 + 5, none⟩ = some (.int .i64 (x.pl : Int)) ∧ w'.cell? ⟨gt, m.k * 11 + 6, none⟩ = some (.int .i64 (x.no : Int)) ∧ w'.cell? ⟨gt, m.k * 11 + 7, none⟩ = some (.bool (decide (0 ≤ x.inn))) ∧ w'.cell? ⟨gt, m.k * 11 + 8, none⟩ = some (.int .i64 (x.t : Int)) ∧ w'.cell? ⟨gt, m.k * 11 + 9, none⟩ = some (.int .i64 x.out) ∧ w'.cell? ⟨gt, m.k * 11 + 10, none⟩ = some (.int .i64 x.inn)) (refine ⟨?_, ?_, ?_, ?_, ?_, ?_, ?_, ?_, ?_, ?_, ?_, ?_, ?_⟩ <;> (repeat (first | assumption | apply cD | apply cN | apply cA)))
      (first | fail)
    all_goals
      go_wp2_with fail
      go_meet
      case rel =>
        refine ⟨_, rfl, ?_, ?_, ?_⟩
        · (repeat (first | (refine bN _ _ ?_; simp; done) | apply bD | apply bA))
        · simp
        · (repeat (first | exact unhide HM | apply Mem.drew | apply Mem.alloc))
  case rest =>
    obtain ⟨tb, rfl, htb, hwt, hm2⟩ := hcut
    clear x0 x1 x2 x3 x4 x5 x6 x7 x8 x9 x10 hm1 hm5 HM
    have HM := hide hm2
    have HTB := hide htb
    have hm5 : wc.cell? ⟨h.b, 5, none⟩ = some (.int .i64 (m.k : Int)) := blk_cell hm2.blk 5
    have hm3 : wc.cell? ⟨h.b, 3, none⟩ = some h.kv := blk_cell hm2.blk 3
    rw [unhide HEK] at hm3
    have hkr := hm2.tk (unhide HS)
    rw [unhide HEK] at hkr
    have ck : wc.cell? ⟨gk, m.k, none⟩ = some (.int .i64 (tk : Int)) := by
      rw [hkr.cellAt m.k (by omega)]
      exact ints_at _ _ _ (nats_at _ _ _ (unhide HTK))
    have hktI : (m.k : Int) < (h.takes.length : Int) := by omega
    clear htb hm2 hkr
    have hm7 : wc.cell? ⟨h.b, 7, none⟩ = some (.slice (some ⟨g, 0, none⟩) m.sts.length cap) := blk_cell (unhide HM).blk 7
    have cb : wc.cell? ⟨g, m.k * 3, none⟩ = some (.int .i64 (b0 : Int)) := by
      rw [(unhide HM).row.cellAt (m.k * 3) (by omega)]
      have := stsCells_at m.sts m.k _ (unhide HP) 0 (by omega)
      rw [Nat.add_zero] at this
      rw [this]; rfl
    have c1 : wc.cell? ⟨g, m.k * 3 + 1, none⟩ = some (.int .i64 ((o0.getD 0 : Nat) : Int)) := by
      rw [(unhide HM).row.cellAt (m.k * 3 + 1) (by omega)]
      rw [stsCells_at m.sts m.k _ (unhide HP) 1 (by omega)]; rfl
    have fz : ∀ j, wc.frozen? ⟨g, j, none⟩ = false := fun j => (unhide HM).row.frozenAt j
    have hksI : (m.k : Int) < (m.sts.length : Int) := by omega
    have htg : tb ≠ g := by omega
    have hbg : h.b ≠ g := by have := (unhide HS).lt; omega
    go_upto_region 2 with fail
    go_quiet (fail)
    go_upto_region 3 with fail
    go_quiet (fail)
    go_upto_region 4 with fail
    go_cut [] (fun wd => wd.heap[tb]? = some (.cells (ptArr x) 153 (0, 0)) ∧ Mem h w0 wd m (.slice (some ⟨g, 0, none⟩) m.sts.length cap) ((stsCells m.sts).set (m.k * 3 + 1) (.int .i64 ((b0 : Int) + (tk : Int)))))
    case first =>
      go_region_held3 (fun w' => w'.cell? ⟨h.b, 7, none⟩ = some (.slice (some ⟨g, 0, none⟩) m.sts.length cap) ∧ w'.cell? ⟨h.b, 5, none⟩ = some (.int .i64 (m.k : Int))) (refine ⟨?_, ?_⟩ <;> (repeat (first | assumption | apply cD | apply cN | apply cA | refine cS hbg ?_)))
        (first | fail)
      all_goals
        go_wp2_with fail
        go_meet
        case rel =>
          refine ⟨?_, ?_⟩
          · (repeat (first | exact unhide HTB | apply bD | apply bN' | apply bA | refine blk_set_other ?_ htg _ _))
          · exact ((unhide HM).drewN _).stint rfl (unhide HS) _ _
    case rest =>
      obtain ⟨htb2, hmd⟩ := hcut
      clear hm3 hm5 hm7 ck cb c1 fz HM HTB hktI
      have HMD := hide hmd
      have HTB := hide htb2
      have hm5 : wc.cell? ⟨h.b, 5, none⟩ = some (.int .i64 (m.k : Int)) := blk_cell hmd.blk 5
      have hm7 : wc.cell? ⟨h.b, 7, none⟩ = some (.slice (some ⟨g, 0, none⟩) m.sts.length cap) := blk_cell hmd.blk 7
      have c2 : wc.cell? ⟨g, m.k * 3 + 2, none⟩ = some (.bool o0.isSome) := by
        rw [hmd.row.cellAt (m.k * 3 + 2) (by omega), List.getElem?_set_ne (by omega), stsCells_at m.sts m.k _ (unhide HP) 2 (by omega)]; rfl
      have fz : ∀ j, wc.frozen? ⟨g, j, none⟩ = false := fun j => hmd.row.frozenAt j
      clear hmd htb2
      go_upto_region 5 with fail
      go_cut [] (fun we => we.heap[tb]? = some (.cells (ptArr x) 153 (0, 0)) ∧ Mem h w0 we { m with sts := m.sts.set m.k (b0, some (b0 + tk)) } (.slice (some ⟨g, 0, none⟩) m.sts.length cap) (stsCells (m.sts.set m.k (b0, some (b0 + tk)))))
      case first =>
        go_region_held3 (fun w' => w'.cell? ⟨h.b, 7, none⟩ = some (.slice (some ⟨g, 0, none⟩) m.sts.length cap) ∧ w'.cell? ⟨h.b, 5, none⟩ = some (.int .i64 (m.k : Int))) (refine ⟨?_, ?_⟩ <;> (repeat (first | assumption | apply cD | apply cN | apply cA | refine cS hbg ?_)))
          (first | fail)
        all_goals
          go_wp2_with fail
          go_meet
          case rel =>
            refine ⟨?_, ?_⟩
            · (repeat (first | exact unhide HTB | apply bD | apply bN' | apply bA | refine blk_set_other ?_ htg _ _))
            · have h1 := (unhide HMD).drew.stint rfl (unhide HS) (m.k * 3 + 2) (.bool true)
              have e1 : (b0 : Int) + (tk : Int) = ((b0 + tk : Nat) : Int) := by omega
              rw [e1, stsCells_set m.sts m.k b0 (b0 + tk) o0 (unhide HP)] at h1
              exact h1.setSts (by simp)
      case rest =>
        obtain ⟨htb3, hme⟩ := hcut
        clear hm5 hm7 c2 fz HMD HTB
        obtain ⟨sts', hsts'⟩ : ∃ sts', sts' = m.sts.set m.k (b0, some (b0 + tk)) := ⟨_, rfl⟩
        have hsl : m.sts.length = sts'.length := by rw [hsts']; simp
        rw [← hsts', hsl] at hme
        have HST := hide hsts'
        have HTB := hide htb3
        have HME := hide hme
        have y0 : wc.cell? ⟨tb, 0, none⟩ = some (.int .i64 (x.lo : Int)) := blk_cell htb3 0
        have y1 : wc.cell? ⟨tb, 1, none⟩ = some (.int .i64 (x.hi : Int)) := blk_cell htb3 1
        have y5 : wc.cell? ⟨tb, 5, none⟩ = some (.int .i64 (x.pl : Int)) := blk_cell htb3 5
        have y7 : wc.cell? ⟨tb, 7, none⟩ = some (.bool (decide (0 ≤ x.inn))) := blk_cell htb3 7
        have HSL := hide hsl
        clear htb3 hme hsts' hsl hksI
        by_cases hlo : tk < x.lo
        · have HF : Hid (Hx.finishM x tk m = (some 2, { m with sts := sts' })) := by
            show _ = _
            rw [Hx.finishM, if_pos hlo, unhide HBEG, unhide HST]
          have hloI : (tk : Int) < (x.lo : Int) := by omega
          clear hlo
          go_wp2_with fail
          show R _ _
          rw [unhide HR, unhide HF]
          exact ⟨rfl, _, unhide HME⟩
        · have hloI : ¬ (tk : Int) < (x.lo : Int) := by omega
          by_cases hhi : x.hi < tk
          · have HF : Hid (Hx.finishM x tk m = (some 3, { m with sts := sts' })) := by
              show _ = _
              rw [Hx.finishM, if_neg hlo, if_pos hhi, unhide HBEG, unhide HST]
            have hhiI : (x.hi : Int) < (tk : Int) := by omega
            clear hlo hhi
            go_wp2_with fail
            show R _ _
            rw [unhide HR, unhide HF]
            exact ⟨rfl, _, unhide HME⟩
          · have hhiI : ¬ (x.hi : Int) < (tk : Int) := by omega
            have HF : Hid (Hx.finishM x tk m = (none, { m with sts := sts', rb := if 0 ≤ x.inn then m.rb.set x.pl ((b0 + tk : Nat) : Int) else m.rb, work := false, k := m.k + 1 })) := by
              show _ = _
              rw [Hx.finishM, if_neg hlo, if_neg hhi, unhide HBEG, unhide HST]
            clear hlo hhi
            have hk1 : IntKind.i64.wrap ((m.k : Int) + 1) = (m.k : Int) + 1 := IntWalk.i64_in _ ⟨by omega, by omega⟩
            by_cases hin : 0 ≤ x.inn
            · have hinb : decide (0 ≤ x.inn) = true := by simpa using hin
              rw [hinb] at y7
              rw [if_pos hin] at HF
              clear hin hinb
              obtain ⟨r0, hr0⟩ : ∃ r0, m.rb[x.pl]? = some r0 := ⟨_, List.getElem?_eq_getElem (by omega)⟩
              have cr : wc.cell? ⟨h.b, 8 + x.pl, none⟩ = some (.int .i64 r0) := by
                rw [blk_cell (unhide HME).blk (8 + x.pl), List.getElem?_toArray]
                show (machL h _ _)[8 + x.pl]? = _
                rw [machL, List.getElem?_append_right (by simp), show (8 + x.pl - [Value.int .i64 (h.J : Int), h.tv, h.cv, h.kv, .int .i64 (m.time : Int), .int .i64 (m.k : Int), .bool m.work, (Value.slice (some ⟨g, 0, none⟩) sts'.length cap)].length) = x.pl by simp]
                exact ints_at _ _ _ hr0
              have fb : ∀ j, wc.frozen? ⟨h.b, j, none⟩ = false := fun j => blk_free (unhide HME).blk j
              have hplI : (x.pl : Int) < 4 := by omega
              have htbb : tb ≠ h.b := by
                intro e
                have e1 := unhide HTB
                rw [e, (unhide HME).blk] at e1
                simp at e1
              have HR0 := hide hr0
              clear hr0
              go_upto_region 11 with fail
              go_cut [] (fun wf => Mem h w0 wf { m with sts := sts', rb := m.rb.set x.pl ((b0 + tk : Nat) : Int) } (.slice (some ⟨g, 0, none⟩) sts'.length cap) (stsCells sts'))
              case first =>
                go_region_held3 (fun w' => w'.cell? ⟨tb, 5, none⟩ = some (.int .i64 (x.pl : Int))) (repeat (first | assumption | apply cD | apply cN | apply cA | refine cS htbb ?_))
                  (first | fail)
                all_goals
                  go_wp2_with fail
                  go_meet
                  case rel =>
                    refine (unhide HME).drew.put (unhide HS) (8 + x.pl) _ _ _ ?_ (unhide HME).drew.row
                    rw [show (b0 : Int) + (tk : Int) = ((b0 + tk : Nat) : Int) by omega]
                    exact machL_rb h _ _ x.pl (b0 + tk)
              case rest =>
                clear y0 y1 y5 y7 HTB HME cr fb
                have HMF := hide hcut
                have z5 : wc.cell? ⟨h.b, 5, none⟩ = some (.int .i64 (m.k : Int)) := blk_cell hcut.blk 5
                have z6 : wc.cell? ⟨h.b, 6, none⟩ = some (.bool m.work) := blk_cell hcut.blk 6
                have fb : ∀ j, wc.frozen? ⟨h.b, j, none⟩ = false := fun j => blk_free hcut.blk j
                clear hcut
                go_wp2_with fail
                show R _ _
                rw [unhide HR, unhide HF]
                exact ⟨rfl, _, (unhide HMF).done (unhide HS)⟩
            · have hinb : decide (0 ≤ x.inn) = false := by simpa using hin
              rw [hinb] at y7
              rw [if_neg hin] at HF
              clear hin hinb
              have z5 : wc.cell? ⟨h.b, 5, none⟩ = some (.int .i64 (m.k : Int)) := blk_cell (unhide HME).blk 5
              have z6 : wc.cell? ⟨h.b, 6, none⟩ = some (.bool m.work) := blk_cell (unhide HME).blk 6
              have fb : ∀ j, wc.frozen? ⟨h.b, j, none⟩ = false := fun j => blk_free (unhide HME).blk j
              go_wp2_with fail
              show R _ _
              rw [unhide HR, unhide HF]
              exact ⟨rfl, _, (unhide HME).done (unhide HS)⟩

end Go.Proofs.YtppcnlkhdgmaiaaDoor
