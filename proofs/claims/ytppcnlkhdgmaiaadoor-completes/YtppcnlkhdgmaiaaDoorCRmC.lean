/- What begin does. -/
import Derived.Test.YtppcnlkhdgmaiaaDoorCRmB
namespace Go.Proofs.YtppcnlkhdgmaiaaDoor
open Go.RowKit

theorem Tryd.infoST : (Tryd.prog.info? 155).map (fun i => (i.zero, i.size, i.bytes)) = some (some (.agg #[.int .i64 0, .int .i64 0, .bool false]), 3, 24) := by kernel_rfl

/-- What an append onto the row of stints leaves of the machine. -/
theorem Mem.appended {h w0 w m sv xs} (x : Mem h w0 w m sv xs) (s : Stat h w0) {w' : World} (hg : w.grownBy w' sv.ownBlock) : w'.heap[h.b]? = some (.cells (machL h m sv).toArray 115 (0, 0)) ∧ w0.grownBy w' (some h.b) := by
  have hlt := s.lt
  have hne : some h.b ≠ sv.ownBlock := fun e => by have := (x.row.lt h.b e.symm).1; omega
  refine ⟨blk_kept x.blk hg hne, grown_own x.gr hg (fun k e => (x.row.lt k e).1)⟩
theorem Mem.push {h w0 w m sv} {sv' : Value} {p : Nat × Option Nat} (hb : w.heap[h.b]? = some (.cells (machL h m sv).toArray 115 (0, 0)) ∧ w0.grownBy w (some h.b)) (s : Stat h w0) (ho : w.ownsRow w0.heap.size 155 3 sv' (m.sts.length + 1) (stsCells m.sts ++ stCells p)) : Mem h w0 (w.setCell ⟨h.b, 7, none⟩ sv') { m with sts := m.sts ++ [p] } sv' (stsCells (m.sts ++ [p])) := by
  refine ⟨?_, ?_, grown_trans hb.2 (grown_set _ _ _ _)⟩
  · have := blk_set hb.1 7 sv'
    rw [List.setIfInBounds_toArray] at this
    exact this
  · rw [stsCells_snoc]
    show World.ownsRow _ _ _ _ _ (m.sts ++ [p]).length _
    rw [List.length_append]
    exact own_set_low' ho s.lt 7 sv'

set_option maxRecDepth 100000 in
set_option maxHeartbeats 4000000 in
theorem begin_any (h : Mh) (w0 w : World) (m : Hx.Ms) (sv : Value) (x : Hx.TStp) (hs : Stat h w0) (hm : Mem h w0 w m sv (stsCells m.sts)) (hx : h.l[m.k]? = some x) (hn : MN m) :
    Calls Tryd.prog 83 #[.pointer (some ⟨h.b, 0, none⟩)] w fun e w' => e = .returned (.int .i64 (((Hx.beginM h.J x m).1.getD 0 : Nat) : Int)) ∧ ∃ sv', Mem h w0 w' (Hx.beginM h.J x m).2 sv' (stsCells (Hx.beginM h.J x m).2.sts) := by
  obtain ⟨i0, hi, hz0, hz1, hz2⟩ := info_parts Tryd.infoST
  have HI := hide hi
  have HZ0 := hide hz0
  have HZ1 := hide hz1
  have HZ2 := hide hz2
  clear hi hz0 hz1 hz2
  have hkl : m.k < h.l.length := (List.getElem?_eq_some_iff.1 hx).1
  have hll := hs.ll
  have hj := hs.j
  have hxok := hs.ok x (List.mem_of_getElem? hx)
  have hpl := hxok.pl
  have ht1 := hxok.t
  have htm := hn.time
  have hslen := hn.len
  have hrb := hn.rb
  obtain ⟨r0, hr0⟩ : ∃ r0, m.rb[x.pl]? = some r0 := ⟨_, List.getElem?_eq_getElem (by omega)⟩
  have hr1 := hn.rbs r0 (List.mem_of_getElem? hr0)
  have hrd : m.rb.getD x.pl 0 = r0 := by rw [List.getD_eq_getElem?_getD, hr0]; rfl
  obtain ⟨gt, capt, etv, _, hgt⟩ := own_pos (hm.t hs) (by omega)
  obtain ⟨asv, cap, rfl⟩ := own_form hm.row
  have HS := hide hs
  have HM := hide hm
  have HRD := hide hrd
  have hm1 : w.cell? ⟨h.b, 1, none⟩ = some h.tv := blk_cell hm.blk 1
  have hm5 : w.cell? ⟨h.b, 5, none⟩ = some (.int .i64 (m.k : Int)) := blk_cell hm.blk 5
  rw [etv] at hm1
  have hrow := hm.t hs
  rw [etv] at hrow
  obtain ⟨x0, x1, x2, x3, x4, x5, x6, x7, x8, x9, x10⟩ := pt_cells hrow rfl hx
  have hkI : (m.k : Int) < (h.l.length : Int) := by omega
  have hk0 : (0 : Int) ≤ (m.k : Int) := by omega
  obtain ⟨R, hR⟩ : ∃ R : Ending → World → Prop, R = fun e w' => e = .returned (.int .i64 (((Hx.beginM h.J x m).1.getD 0 : Nat) : Int)) ∧ ∃ sv', Mem h w0 w' (Hx.beginM h.J x m).2 sv' (stsCells (Hx.beginM h.J x m).2.sts) := ⟨_, rfl⟩
  rw [← hR]
  have HR := hide hR
  have HR0 := hide hr0
  clear hs hm hx etv hrow hn hR hxok hr0 hrd
  go_enter Tryd.func83, Tryd.ntmps83
  go_upto_region 1 with fail
  go_cut [3] (fun s3 wc => ∃ tb, s3 = .pointer (some ⟨tb, 0, none⟩) ∧ wc.heap[tb]? = some (.cells (ptArr x) 153 (0, 0)) ∧ w.heap.size ≤ tb ∧ Mem h w0 wc m (.slice asv m.sts.length cap) (stsCells m.sts))
  case first =>
    go_region_held3 (fun w' => w'.cell? ⟨h.b, 1, none⟩ = some (.slice (some ⟨gt, 0, none⟩) h.l.length capt) ∧ w'.cell? ⟨h.b, 5, none⟩ = some (.int .i64 (m.k : Int)) ∧ w'.cell? ⟨gt, m.k * 11, none⟩ = some (.int .i64 (x.lo : Int)) ∧ w'.cell? ⟨gt, m.k * 11 + 1, none⟩ = some (.int .i64 (x.hi : Int)) ∧ w'.cell? ⟨gt, m.k * 11 + 2, none⟩ = some (.bool x.rest) ∧ w'.cell? ⟨gt, m.k * 11 + 3, none⟩ = some (.int .i64 (x.mn : Int)) ∧ w'.cell? ⟨gt, m.k * 11 + 4, none⟩ = some (.int .i64 (x.mx : Int)) ∧ w'.cell? ⟨gt, m.k * 11 + 5, none⟩ = some (.int .i64 (x.pl : Int)) ∧ w'.cell? ⟨gt, m.k * 11 + 6, none⟩ = some (.int .i64 (x.no : Int)) ∧ w'.cell? ⟨gt, m.k * 11 + 7, none⟩ = some (.bool (decide (0 ≤ x.inn))) ∧ w'.cell? ⟨gt, m.k * 11 + 8, none⟩ = some (.int .i64 (x.t : Int)) ∧ w'.cell? ⟨gt, m.k * 11 + 9, none⟩ = some (.int .i64 x.out) ∧ w'.cell? ⟨gt, m.k * 11 + 10, none⟩ = some (.int .i64 x.inn)) (refine ⟨?_, ?_, ?_, ?_, ?_, ?_, ?_, ?_, ?_, ?_, ?_, ?_, ?_⟩ <;> (repeat (first | assumption | apply cD | apply cN | apply cA)))
      (first | fail)
    all_goals
      go_wp2_with fail
      go_meet
      case rel =>
        refine ⟨_, rfl, ?_, ?_, ?_⟩
        · (repeat (first | (refine bN _ _ ?_; simp; done) | apply bD | apply bA))
        · simp
        · (repeat (first | exact unhide HM | apply Mem.drew | apply Mem.alloc))
  case rest =>
    obtain ⟨tb, rfl, htb, hwt, hm2⟩ := hcut
    clear x0 x1 x2 x3 x4 x5 x6 x7 x8 x9 x10 hm1 hm5 HM
    have HM := hide hm2
    have y2 : wc.cell? ⟨tb, 2, none⟩ = some (.bool x.rest) := blk_cell htb 2
    have y3 : wc.cell? ⟨tb, 3, none⟩ = some (.int .i64 (x.mn : Int)) := blk_cell htb 3
    have y4 : wc.cell? ⟨tb, 4, none⟩ = some (.int .i64 (x.mx : Int)) := blk_cell htb 4
    have y5 : wc.cell? ⟨tb, 5, none⟩ = some (.int .i64 (x.pl : Int)) := blk_cell htb 5
    have y8 : wc.cell? ⟨tb, 8, none⟩ = some (.int .i64 (x.t : Int)) := blk_cell htb 8
    have z0 : wc.cell? ⟨h.b, 0, none⟩ = some (.int .i64 (h.J : Int)) := blk_cell hm2.blk 0
    have z4 : wc.cell? ⟨h.b, 4, none⟩ = some (.int .i64 (m.time : Int)) := blk_cell hm2.blk 4
    have z6 : wc.cell? ⟨h.b, 6, none⟩ = some (.bool m.work) := blk_cell hm2.blk 6
    have z7 : wc.cell? ⟨h.b, 7, none⟩ = some (.slice asv m.sts.length cap) := blk_cell hm2.blk 7
    have cr : wc.cell? ⟨h.b, 8 + x.pl, none⟩ = some (.int .i64 r0) := by
      rw [blk_cell hm2.blk (8 + x.pl), List.getElem?_toArray]
      show (machL h _ _)[8 + x.pl]? = _
      rw [machL, List.getElem?_append_right (by simp), show (8 + x.pl - [Value.int .i64 (h.J : Int), h.tv, h.cv, h.kv, .int .i64 (m.time : Int), .int .i64 (m.k : Int), .bool m.work, (Value.slice asv m.sts.length cap)].length) = x.pl by simp]
      exact ints_at _ _ _ (unhide HR0)
    have fb : ∀ j, wc.frozen? ⟨h.b, j, none⟩ = false := fun j => blk_free hm2.blk j
    have hplI : (x.pl : Int) < 4 := by omega
    have hbs := (unhide HS).lt
    have hsz := hm2.gr.size
    clear htb hm2
    go_upto_region 2 with fail
    go_quiet (fail)
    by_cases hl : x.t + h.J < m.time
    · have HF : Hid (Hx.beginM h.J x m = (some 4, m)) := by show _ = _; rw [Hx.beginM, if_pos hl]
      have hlI : (x.t : Int) + (h.J : Int) < (m.time : Int) := by omega
      clear hl
      go_wp2_with fail
      show R _ _
      rw [unhide HR, unhide HF]
      exact ⟨rfl, _, (unhide HM).drewN _⟩
    · have hlI : ¬ (x.t : Int) + (h.J : Int) < (m.time : Int) := by omega
      go_upto_region 4 with fail
      go_quiet (fail)
      cases hwd : Hx.windowB x ((m.time : Int) - m.rb.getD x.pl 0)
      · have HF : Hid (Hx.beginM h.J x m = (none, { m with sts := m.sts ++ [(m.time, none)], work := true })) := by
          show _ = _
          rw [Hx.beginM, if_neg hl, if_neg (by rw [hwd]; decide)]
        rw [unhide HRD] at hwd
        clear hl
        have hcase : x.rest = false ∨ (x.rest = true ∧ ¬ (m.time : Int) - r0 < (x.mn : Int) ∧ ¬ (x.mx : Int) < (m.time : Int) - r0) := by
          cases hre : x.rest
          · exact Or.inl rfl
          · rw [Hx.windowB, hre, Bool.true_and] at hwd
            simp at hwd
            exact Or.inr ⟨rfl, by omega, by omega⟩
        clear hwd
        obtain ⟨cur, hcur⟩ : ∃ cur, cur = wc.heap.size := ⟨_, rfl⟩
        rcases hcase with hre | ⟨hre, hmn, hmx⟩
        all_goals
          rw [hre] at y2
          clear hre
          go_upto_region 7 with fail
          generalize hW : wc.drewN _ = W
          have HMW : Hid (Mem h w0 W m (.slice asv m.sts.length cap) (stsCells m.sts)) := by
            rw [← hW]; exact (unhide HM).drewN _
          clear hW HM y2 y3 y4 y5 y8 z0 z4 z6 z7 cr fb hsz
          have r4 : W.cell? ⟨h.b, 4, none⟩ = some (.int .i64 (m.time : Int)) := blk_cell (unhide HMW).blk 4
          have r7 : W.cell? ⟨h.b, 7, none⟩ = some (.slice asv m.sts.length cap) := blk_cell (unhide HMW).blk 7
          have r4a : ∀ o, (W.alloc o).cell? ⟨h.b, 4, none⟩ = some (.int .i64 (m.time : Int)) := fun o => cA o r4
          have r7a : ∀ o, (W.alloc o).cell? ⟨h.b, 7, none⟩ = some (.slice asv m.sts.length cap) := fun o => cA o r7
          have hsz := (unhide HMW).gr.size
          go_cut [] (fun wd => ∃ sv', Mem h w0 wd { m with sts := m.sts ++ [(m.time, none)] } sv' (stsCells (m.sts ++ [(m.time, none)])))
          case first =>
            go_region_law (refine step_append_own rfl (.tmp 68) (.tmp 74) 113 rfl w0.heap.size 155 i0 (.agg #[.int .i64 0, .int .i64 0, .bool false]) 3 24 Tryd.underlying113 (unhide HI) (unhide HZ0) (unhide HZ1) (unhide HZ2) rfl (by decide) (.slice asv m.sts.length cap) m.sts.length (stsCells m.sts) (by simp [Act.eval]) (((unhide HMW).alloc _).drew.row) ⟨W.heap.size, 0, none⟩ 1 1 (stCells (m.time, none)) (by simp [Act.eval]) rfl (news_new W (stCells (m.time, none)) 155) (stCells_one _) (by unfold maxLen; omega) (by omega) (by simp; omega) ?_; intro v' w3 hown' hgrow'; obtain ⟨ao3, cap3, rfl⟩ := own_form hown'; have H3 := hide (Mem.appended ((unhide HMW).alloc _).drew (unhide HS) hgrow'); have cL3 : w3.cell? ⟨h.b, 7, none⟩ = some (.slice asv m.sts.length cap) := blk_cell (unhide H3).1 7; have fL3 := blk_free (unhide H3).1 7; have O3 := hide hown'; clear hown' hgrow')
            all_goals
              go_wp2_with fail
              go_meet
              case rel => exact ⟨_, Mem.push (unhide H3) (unhide HS) (unhide O3)⟩
          case rest =>
            obtain ⟨sv', hmd⟩ := hcut
            have HMD := hide hmd
            have q6 : wc.cell? ⟨h.b, 6, none⟩ = some (.bool m.work) := blk_cell hmd.blk 6
            have fq : ∀ j, wc.frozen? ⟨h.b, j, none⟩ = false := fun j => blk_free hmd.blk j
            clear hmd r4 r7 r4a r7a HMW
            go_wp2_with fail
            show R _ _
            rw [unhide HR, unhide HF]
            exact ⟨rfl, _, (unhide HMD).put (unhide HS) 6 (.bool true) _ _ rfl (unhide HMD).row⟩
      · have HF : Hid (Hx.beginM h.J x m = (some 5, m)) := by
          show _ = _
          rw [Hx.beginM, if_neg hl, if_pos hwd]
        rw [unhide HRD] at hwd
        have hrest : x.rest = true := by
          cases hre : x.rest
          · rw [Hx.windowB, hre] at hwd; cases hwd
          · rfl
        rw [hrest] at y2
        rw [Hx.windowB, hrest, Bool.true_and] at hwd
        clear hl hrest
        by_cases hmn : (m.time : Int) - r0 < (x.mn : Int)
        · clear hwd
          go_wp2_with fail
          show R _ _
          rw [unhide HR, unhide HF]
          exact ⟨rfl, _, (unhide HM).drewN _⟩
        · have hmx : (x.mx : Int) < (m.time : Int) - r0 := by simpa [hmn] using hwd
          clear hwd
          go_wp2_with fail
          show R _ _
          rw [unhide HR, unhide HF]
          exact ⟨rfl, _, (unhide HM).drewN _⟩

end Go.Proofs.YtppcnlkhdgmaiaaDoor
