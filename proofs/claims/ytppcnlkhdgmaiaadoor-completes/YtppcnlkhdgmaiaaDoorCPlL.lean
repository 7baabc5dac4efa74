/- What the iterator's closure does behind a beginning to which steps are left: the walk. -/
import Derived.Test.YtppcnlkhdgmaiaaDoorCPlK
namespace Go.Proofs.YtppcnlkhdgmaiaaDoor
open Go.RowKit

theorem Hx.Sofar.nonneg {K : Nat} {ps : List (List Hx.Stp)} {l : List Nat} {r : Int} {nx : Nat → Nat} (h : Hx.Sofar K ps l r nx) : 0 ≤ r := by
  rw [← h.rst]
  have := Hx.sumR_le (f := fun _ => 0) (g := fun p => if Hx.under ps nx p then 1 else 0) ps.length (fun a _ => by split <;> simp)
  have h5 : ∀ m, Hx.sumR (fun _ => 0) m = 0 := fun m => by induction m with | zero => rfl | succ m ih => rw [Hx.sumR, ih]; rfl
  rw [h5] at this; exact this
theorem Hx.nxtF_mem {K : Nat} {ps : List (List Hx.Stp)} (hf : Hx.Fine ps) {r : Int} {nx : Nat → Nat} {i : Nat} {t : Hx.Trn} (h : (Hx.nxtF K ps r nx)[i]? = some t) :
    t.pl < ps.length ∧ t.no = nx t.pl ∧ Hx.turnAt ps t.pl (nx t.pl) = some t ∧ r + Hx.moreR t ≤ (K : Int) ∧ Hx.fitStep K (Hx.labs ps) r nx (Hx.idxT ps t) = some (r + Hx.moreR t, Hx.bump nx t.pl) := by
  have hm := List.mem_of_getElem? h
  unfold Hx.nxtF at hm
  obtain ⟨p, hp, ht⟩ := List.mem_filterMap.1 hm
  obtain ⟨h1, h2, h3, h4, h5⟩ := Hx.nextAt_fit hf ht
  subst h1
  exact ⟨by simpa using hp, h2, h3, h4, h5⟩
theorem Hx.moreR_le (t : Hx.Trn) : -1 ≤ Hx.moreR t ∧ Hx.moreR t ≤ 1 := by
  unfold Hx.moreR; constructor <;> (split <;> split <;> omega)

theorem It.restStep {w W : World} {c : Cx} {ts : List Hx.Trn} {r : Int} {nx : Nat → Nat} {u : Nat} {mv : Value} {P : Nat → Prop} (h : It w c W ts r nx u mv P) (o : Obj) (r' : Int) :
    It w c (((W.alloc o).setCell ⟨c.b.r, 0, none⟩ (.int .i64 r')).drew) ts r' nx u mv P ∧ Frm c W P mv (((W.alloc o).setCell ⟨c.b.r, 0, none⟩ (.int .i64 r')).drew) P mv ∧ ∀ x, P x → (((W.alloc o).setCell ⟨c.b.r, 0, none⟩ (.int .i64 r')).drew).heap[x]? = W.heap[x]? := by
  have hb := belA o (Below.refl W.heap.size W)
  refine ⟨((h.below hb).setR r').below (belD (Below.refl _ _)), ((Frm.below P mv hb).trans (Frm.put P mv c.b.r 0 _ (Or.inl rfl))).trans (Frm.below P mv (belD (Below.refl _ _))), fun x hx => ?_⟩
  have s1 := h.sep x hx
  show ((W.alloc o).setCell ⟨c.b.r, 0, none⟩ (.int .i64 r')).heap[x]? = _
  rw [(grown_set (W.alloc o) c.b.r 0 (.int .i64 r')).block x (Nat.lt_of_lt_of_le s1.2.1 hb.size) (fun e => s1.2.2.2.2.1 (Option.some.inj e)), hb.block x s1.2.1]

set_option maxRecDepth 100000 in
set_option maxHeartbeats 8000000 in
theorem go_node (w : World) (c : Cx) (yl base d : Nat) (Cl Clx : List (List Nat × Bool) → (Nat → Prop) → World → Prop) (hps : Plts w base c.v c.ps) (hgood : GoodC c) (hab : Abide Cl) (habx : Abide Clx) (ih : GoSaid w c yl Cl Clx d) : GoSaid w c yl Cl Clx (d + 1) := by
  intro pre l r nx u mv P W hit hcl hend hin hlen hu
  have hsf : Hx.Sofar c.K c.ps l r nx := by simpa using Hx.Sofar.of_end hgood.fine l [] 0 _ r nx (Hx.Sofar.start c.K hgood.fine) hend
  have hsome : Hx.nxtF c.K c.ps r nx ≠ [] := Hx.nxtF_some hsf (by omega) hgood.rests
  have hnl : (Hx.nxtF c.K c.ps r nx).length ≤ c.ps.length := nextUp_len _
  have hr1 : 0 ≤ r ∧ r ≤ 9 := ⟨hsf.nonneg, by have h1 := hsf.top; have h2 := hgood.k; omega⟩
  have hall9 := hgood.all
  have HALL := hide (Hx.partF_all (u := u) hgood.fine hend hgood.rests hlen)
  have HMEM := hide (fun i t => Hx.nxtF_mem (K := c.K) (r := r) (nx := nx) (i := i) (t := t) hgood.fine)
  have HIT := hide hit
  have HCL := hide hcl
  have HIN := hide hin
  have HSF := hide hsf
  have HPS := hide hps
  have HGOOD := hide hgood
  have HAB := hide hab
  have HABX := hide habx
  have HEND := hide hend
  have IH := hide ih
  obtain ⟨ts, hts⟩ : ∃ ts, ts = l.map (Hx.turnOfIdx c.ps) := ⟨_, rfl⟩
  have htsl : ts.length = l.length := by rw [hts, List.length_map]
  have hpsn := hgood.pos
  have hps4 := hgood.le
  rw [← hts] at HIT ⊢
  have HTS := hide hts
  obtain ⟨next, hnext⟩ : ∃ next, next = Hx.nxtF c.K c.ps r nx := ⟨_, rfl⟩
  rw [← hnext] at HALL hsome hnl
  have hn0 : 0 < next.length := List.length_pos_iff.2 hsome
  have HNEXT := hide hnext
  clear hit hcl hend hin hsf hps hgood hab habx ih hts hnext hsome
  obtain ⟨J, K, D, v, ps, b⟩ := c
  simp only at hnl hpsn hps4 hall9 hlen
  have hts9 : ts.length ≤ 9 := by omega
  have HTSL := hide htsl
  have HLEN := hide hlen
  clear htsl hlen
  obtain ⟨ao, capv, rfl⟩ : ∃ ao cap, v = .slice ao ps.length cap := by
    obtain ⟨vs, h1, _⟩ := unhide HPS
    exact own_form h1
  have p0 : W.cell? ⟨b.p, 0, none⟩ = some (.int .i64 (J : Int)) := blk_cell (unhide HIT).cp 0
  have p1 : W.cell? ⟨b.p, 1, none⟩ = some (.int .i64 (K : Int)) := blk_cell (unhide HIT).cp 1
  have p2 : W.cell? ⟨b.p, 2, none⟩ = some (.int .i64 (D : Int)) := blk_cell (unhide HIT).cp 2
  have p3 : W.cell? ⟨b.p, 3, none⟩ = some (.slice ao ps.length capv) := blk_cell (unhide HIT).cp 3
  have d0 : W.cell? ⟨b.d, 0, none⟩ = some (.slice (some ⟨b.gd, 0, none⟩) ps.length ps.length) := blk_cell (unhide HIT).cd 0
  have r0 : W.cell? ⟨b.r, 0, none⟩ = some (.int .i64 r) := blk_cell (unhide HIT).cr 0
  have HARGS : Hid (#[Value.func (.yield yl) #[] #[]] ++ Cx.ptrs ⟨J, K, D, .slice ao ps.length capv, ps, b⟩ = #[.func (.yield yl) #[] #[], .pointer (some ⟨b.p, 0, none⟩), .pointer (some ⟨b.d, 0, none⟩), .pointer (some ⟨b.r, 0, none⟩), .pointer (some ⟨b.m, 0, none⟩), .pointer (some ⟨b.u, 0, none⟩), .pointer (some ⟨b.g, 0, none⟩)]) := rfl
  rw [unhide HARGS]
  generalize hR : GoRes w ⟨J, K, D, .slice ao ps.length capv, ps, b⟩ Cl Clx pre (Hx.flagL (Hx.allO K (Hx.labs ps) (d + 1) l) u) ts r nx u mv P W = R
  have HR := hide hR
  clear hR
  obtain ⟨i0, hi, hz0, hz1, hz2⟩ := info_parts Tryd.info83
  have HI := hide hi
  have HZ0 := hide hz0
  have HZ1 := hide hz1
  have HZ2 := hide hz2
  clear hi hz0 hz1 hz2
  go_enter Tryd.func68, Tryd.ntmps68
  go_wp2_with fail
  have HNX : Hid (Calls Tryd.prog 69 #[.agg #[.int .i64 (J : Int), .int .i64 (K : Int), .int .i64 (D : Int), .slice ao ps.length capv], .slice (some ⟨b.gd, 0, none⟩) ps.length ps.length, .int .i64 r] W fun e w' => ∃ nv, e = .returned nv ∧ Trns w' W.heap.size nv next ∧ Below W.heap.size W w') := by
    have h1 := unhide HIT
    have h2 := unhide HPS
    have h3 := unhide HGOOD
    have h4 := unhide HSF
    rw [unhide HNEXT]
    exact next_any J K D _ _ base ps r nx _ (h1.plts h2) hpsn (by omega) h3.fine h1.rd h4.le (by omega) (by omega)
  refine (unhide HNX).mono ?_
  rintro e W1 ⟨nv, rfl, hnv, hb1⟩
  obtain ⟨gn, capn, rfl, hgn1, hgn2⟩ := own_pos hnv hn0
  have HIT1 := hide ((unhide HIT).below hb1)
  have HCL1 : Hid (Cl pre P W1) := unhide HAB pre P W W1 (unhide HCL) (fun x hx => hb1.block x ((unhide HIT).sep x hx).2.1) hb1.size
  have HF1 : Hid (Frm (⟨J, K, D, .slice ao ps.length capv, ps, b⟩ : Cx) W P mv W1 P mv) := Frm.below P mv hb1
  have HNV : Hid (Trns W1 0 (.slice (some ⟨gn, 0, none⟩) next.length capn) next) := own_mono hnv (Nat.zero_le _)
  have HFN : Hid (∀ x, (Value.slice (some ⟨gn, 0, none⟩) next.length capn).ownBlock = some x → ¬ P x ∧ mv.ownBlock ≠ some x) := fun x hx => by
    cases hx
    refine ⟨fun hp => ?_, fun e => ?_⟩
    · have h1 := ((unhide HIT).sep gn hp).2.1
      exact absurd h1 (Nat.not_lt.2 hgn1)
    · have h1 := ((unhide HIT).rm.lt gn e).2
      exact absurd h1 (Nat.not_lt.2 hgn1)
  have hnlI : ((next.length : Int) == 0) = false := by rw [beq_eq_false_iff_ne]; omega
  clear hnv hb1 p0 p1 p2 p3 d0 r0 HNX HIT HCL
  go_wp2_with fail
  go_loopg [29] next.length (fun gk iv wr => ∃ (i : Nat) (mvi : Value) (Pi : Nat → Prop), i ≤ next.length ∧ gk = next.length - i ∧ iv = .int .i64 (i : Int) ∧ It w (⟨J, K, D, .slice ao ps.length capv, ps, b⟩ : Cx) wr ts r nx u mvi Pi ∧ Frm (⟨J, K, D, .slice ao ps.length capv, ps, b⟩ : Cx) W P mv wr Pi mvi ∧ Cl (pre ++ Hx.partF K ps d l u next i) Pi wr ∧ Trns wr 0 (.slice (some ⟨gn, 0, none⟩) next.length capn) next ∧ (∀ x, (Value.slice (some ⟨gn, 0, none⟩) next.length capn).ownBlock = some x → ¬ Pi x ∧ mvi.ownBlock ≠ some x))
  case atStart => exact ⟨0, mv, P, Nat.zero_le _, rfl, rfl, unhide HIT1, unhide HF1, by simpa [Hx.partF] using unhide HCL1, unhide HNV, unhide HFN⟩
  case round =>
    clear HIT1 HF1 HCL1 HNV HFN
    obtain ⟨i, mvi, Pi, hi, rfl, rfl, hit, hfr, hcl, hnv, hfn⟩ := hrel
    by_cases hlt : i < next.length
    · obtain ⟨t, ht⟩ : ∃ t, next[i]? = some t := ⟨next[i], List.getElem?_eq_getElem hlt⟩
      obtain ⟨hpl, hno, hta, hk, hfit⟩ := unhide HMEM i t (by rw [← unhide HNEXT]; exact ht)
      have HNO := hide hno
      have HTO : Hid (Hx.turnOfIdx ps (Hx.idxT ps t) = t) := Hx.turnOfIdx_at (unhide HGOOD).fine hta
      have HEND2 : Hid (Hx.endS K (Hx.labs ps) (l ++ [Hx.idxT ps t]) 0 (fun _ => 0) = some (r + Hx.moreR t, Hx.bump nx t.pl)) := by
        show _ = _
        have h1 : Hx.endS K (Hx.labs ps) l 0 (fun _ => 0) = some (r, nx) := unhide HEND
        rw [Hx.endS_snoc, h1]; exact hfit
      have HIDX : Hid (Hx.idxT ps t < (Hx.labs ps).length) := by
        have h1 := hfit
        show _ < _
        by_cases e : Hx.idxT ps t < (Hx.labs ps).length
        · exact e
        · unfold Hx.fitStep at h1; rw [List.getElem?_eq_none (by omega)] at h1; cases h1
      have HSUC := hide (Hx.partF_succ (K := K) (ps := ps) (d := d) (l := l) (u := u) ht)
      have hnx : nx t.pl ≤ 9 := by
        have h1 := (unhide HSF).le t.pl hpl
        obtain ⟨q, x, hq, hx, e⟩ := Hx.turnAt_some hta
        have h2 := Hx.getElem?_lt (Hx.labs_at hq hx)
        omega
      obtain ⟨mr, hmr⟩ : ∃ mr, mr = Hx.moreR t := ⟨_, rfl⟩
      have hmr1 : -1 ≤ mr ∧ mr ≤ 1 := by rw [hmr]; exact Hx.moreR_le t
      rw [← hmr] at HEND2 hk
      have HMR := hide hmr
      obtain ⟨later, hlater⟩ : ∃ later, next.length = i + 1 + later := ⟨next.length - (i + 1), by omega⟩
      have hl3 : later ≤ 3 := by omega
      have HLATER := hide hlater
      have x0 : wr.cell? ⟨gn, i * 8, none⟩ = some (.int .i64 (t.x.lo : Int)) := by rw [hnv.cellAt (i * 8) (by omega)]; exact trnsCells_at next i t ht 0 (by omega)
      have x1 : wr.cell? ⟨gn, i * 8 + 1, none⟩ = some (.int .i64 (t.x.hi : Int)) := by rw [hnv.cellAt (i * 8 + 1) (by omega)]; exact trnsCells_at next i t ht 1 (by omega)
      have x2 : wr.cell? ⟨gn, i * 8 + 2, none⟩ = some (.bool t.x.rest) := by rw [hnv.cellAt (i * 8 + 2) (by omega)]; exact trnsCells_at next i t ht 2 (by omega)
      have x3 : wr.cell? ⟨gn, i * 8 + 3, none⟩ = some (.int .i64 (t.x.mn : Int)) := by rw [hnv.cellAt (i * 8 + 3) (by omega)]; exact trnsCells_at next i t ht 3 (by omega)
      have x4 : wr.cell? ⟨gn, i * 8 + 4, none⟩ = some (.int .i64 (t.x.mx : Int)) := by rw [hnv.cellAt (i * 8 + 4) (by omega)]; exact trnsCells_at next i t ht 4 (by omega)
      have x5 : wr.cell? ⟨gn, i * 8 + 5, none⟩ = some (.int .i64 (t.pl : Int)) := by rw [hnv.cellAt (i * 8 + 5) (by omega)]; exact trnsCells_at next i t ht 5 (by omega)
      have x6 : wr.cell? ⟨gn, i * 8 + 6, none⟩ = some (.int .i64 (t.no : Int)) := by rw [hnv.cellAt (i * 8 + 6) (by omega)]; exact trnsCells_at next i t ht 6 (by omega)
      have x7 : wr.cell? ⟨gn, i * 8 + 7, none⟩ = some (.bool t.beg) := by rw [hnv.cellAt (i * 8 + 7) (by omega)]; exact trnsCells_at next i t ht 7 (by omega)
      -- the turn is laid into a variable
      have HB1 := hide (belA (.cells #[.int .i64 (t.x.lo : Int), .int .i64 (t.x.hi : Int), .bool t.x.rest, .int .i64 (t.x.mn : Int), .int .i64 (t.x.mx : Int), .int .i64 (t.pl : Int), .int .i64 (t.no : Int), .bool t.beg] 83) (Below.refl wr.heap.size wr))
      have HIT1 := hide (hit.below (unhide HB1))
      have HF1 : Hid (Frm (⟨J, K, D, .slice ao ps.length capv, ps, b⟩ : Cx) W P mv (wr.alloc (.cells #[.int .i64 (t.x.lo : Int), .int .i64 (t.x.hi : Int), .bool t.x.rest, .int .i64 (t.x.mn : Int), .int .i64 (t.x.mx : Int), .int .i64 (t.pl : Int), .int .i64 (t.no : Int), .bool t.beg] 83)) Pi mvi) := hfr.trans (Frm.below Pi mvi (unhide HB1))
      have HCL1 : Hid (Cl (pre ++ Hx.partF K ps d l u next i) Pi (wr.alloc (.cells #[.int .i64 (t.x.lo : Int), .int .i64 (t.x.hi : Int), .bool t.x.rest, .int .i64 (t.x.mn : Int), .int .i64 (t.x.mx : Int), .int .i64 (t.pl : Int), .int .i64 (t.no : Int), .bool t.beg] 83))) := unhide HAB _ Pi wr _ hcl (fun x hx => (unhide HB1).block x (hit.sep x hx).2.1) (unhide HB1).size
      have HLOC1 : Hid (Loc (wr.alloc (.cells #[.int .i64 (t.x.lo : Int), .int .i64 (t.x.hi : Int), .bool t.x.rest, .int .i64 (t.x.mn : Int), .int .i64 (t.x.mx : Int), .int .i64 (t.pl : Int), .int .i64 (t.no : Int), .bool t.beg] 83)) (.slice (some ⟨gn, 0, none⟩) next.length capn) next wr.heap.size t Pi mvi) := by
        refine ⟨own_below hnv (unhide HB1), blk_new wr _ _, ⟨fun hp => ?_, fun e => ?_⟩, hfn⟩
        · have := (hit.sep _ hp).2.1; omega
        · have := (hit.rm.lt _ e).2; omega
      clear hit hfr hcl hnv hfn ht hfit hta hmr hlater HB1 hno
      go_upto_region 7 with fail
      obtain ⟨tb, htb⟩ : ∃ tb, tb = wr.heap.size := ⟨_, rfl⟩
      rw [← htb] at HLOC1 ⊢
      clear htb x0 x1 x2 x3 x4 x5 x6 x7
      generalize wr.alloc (.cells #[.int .i64 (t.x.lo : Int), .int .i64 (t.x.hi : Int), .bool t.x.rest, .int .i64 (t.x.mn : Int), .int .i64 (t.x.mx : Int), .int .i64 (t.pl : Int), .int .i64 (t.no : Int), .bool t.beg] 83) = w1 at *
      -- untried
      have hlw : (next.length : Int) - 1 - (i : Int) = (later : Int) := by have := unhide HLATER; omega
      have u1 : w1.cell? ⟨b.u, 0, none⟩ = some (.int .i64 (u : Int)) := blk_cell (unhide HIT1).cu 0
      have uf : w1.frozen? ⟨b.u, 0, none⟩ = false := blk_free (unhide HIT1).cu 0
      obtain ⟨uu, huu⟩ : ∃ uu, uu = u + later := ⟨_, rfl⟩
      have huI : (u : Int) + (later : Int) = (uu : Int) := by omega
      have HUU := hide huu
      clear huu
      go_upto_region 9 with fail
      have HIT2 := hide ((unhide HIT1).setU uu)
      have HF2' : Hid (Frm (⟨J, K, D, .slice ao ps.length capv, ps, b⟩ : Cx) w1 Pi mvi (w1.setCell ⟨b.u, 0, none⟩ (.int .i64 (uu : Int))) Pi mvi) := Frm.put Pi mvi b.u 0 _ (Or.inr (Or.inr (Or.inl rfl)))
      have HF2 := hide ((unhide HF1).trans (unhide HF2'))
      have HLOC2 := hide ((unhide HLOC1).frm (unhide HIT1) (unhide HF2'))
      have HCL2 : Hid (Cl (pre ++ Hx.partF K ps d l u next i) Pi (w1.setCell ⟨b.u, 0, none⟩ (.int .i64 (uu : Int)))) := unhide HAB _ Pi w1 _ (unhide HCL1) (fun x hx => (grown_set w1 b.u 0 (.int .i64 (uu : Int))).block x ((unhide HIT1).sep x hx).2.1 (fun e => ((unhide HIT1).sep x hx).2.2.2.2.2.2.1 (Option.some.inj e))) (grown_set w1 b.u 0 (.int .i64 (uu : Int))).size
      clear HIT1 HF1 HLOC1 HCL1 HF2' u1 uf
      generalize w1.setCell ⟨b.u, 0, none⟩ (.int .i64 (uu : Int)) = w2 at *
      -- made
      obtain ⟨am, capm, rfl⟩ := own_form (unhide HIT2).rm
      have m0 : w2.cell? ⟨b.m, 0, none⟩ = some (.slice am ts.length capm) := blk_cell (unhide HIT2).cm 0
      have t0 : w2.cell? ⟨tb, 0, none⟩ = some (.int .i64 (t.x.lo : Int)) := blk_cell (unhide HLOC2).blk 0
      have t1 : w2.cell? ⟨tb, 1, none⟩ = some (.int .i64 (t.x.hi : Int)) := blk_cell (unhide HLOC2).blk 1
      have t2 : w2.cell? ⟨tb, 2, none⟩ = some (.bool t.x.rest) := blk_cell (unhide HLOC2).blk 2
      have t3 : w2.cell? ⟨tb, 3, none⟩ = some (.int .i64 (t.x.mn : Int)) := blk_cell (unhide HLOC2).blk 3
      have t4 : w2.cell? ⟨tb, 4, none⟩ = some (.int .i64 (t.x.mx : Int)) := blk_cell (unhide HLOC2).blk 4
      have t5 : w2.cell? ⟨tb, 5, none⟩ = some (.int .i64 (t.pl : Int)) := blk_cell (unhide HLOC2).blk 5
      have t6 : w2.cell? ⟨tb, 6, none⟩ = some (.int .i64 (t.no : Int)) := blk_cell (unhide HLOC2).blk 6
      have t7 : w2.cell? ⟨tb, 7, none⟩ = some (.bool t.beg) := blk_cell (unhide HLOC2).blk 7
      have HNEM : Hid (some b.m ≠ (Value.slice am ts.length capm).ownBlock) := fun e => own_not_box (unhide HIT2).rm (unhide HIT2).cm (by decide) e.symm
      have hmx : ts.length + 1 ≤ maxLen := by unfold maxLen; omega
      go_upto_region 10 with (at_builtin; refine wpList_append_own2 _ rfl _ _ 87 rfl 0 83 i0 (.agg #[.int .i64 0, .int .i64 0, .bool false, .int .i64 0, .int .i64 0, .int .i64 0, .int .i64 0, .bool false]) 8 64 Tryd.underlying87 (unhide HI) (unhide HZ0) (unhide HZ1) (unhide HZ2) rfl (by decide) _ _ _ rfl ((unhide HIT2).rm.alloc _) ⟨w2.heap.size, 0, none⟩ 1 1 (trnCells t) rfl rfl (news_new w2 (trnCells t) 83) (trnCells_one t) hmx (by omega) (Nat.zero_le _) ?_; intro v' w3 hown' hgrow' hv'; obtain ⟨av, capv', rfl⟩ := own_form hown'; have m3 : w3.cell? ⟨b.m, 0, none⟩ = some (.slice am ts.length capm) := hgrow'.cell (cA _ m0) (unhide HNEM); have mf3 : w3.frozen? ⟨b.m, 0, none⟩ = false := blk_free (blk_kept (bA _ (unhide HIT2).cm) hgrow' (unhide HNEM)) 0; have HO3 := hide hown'; have HG3 := hide hgrow'; have HV3 := hide hv'; clear hown' hgrow' hv')
      have HW3 : Hid (∀ x, (Value.slice av (ts.length + 1) capv').ownBlock = some x → (Value.slice am ts.length capm).ownBlock = some x ∨ (w2.alloc (.cells #[.int .i64 (t.x.lo : Int), .int .i64 (t.x.hi : Int), .bool t.x.rest, .int .i64 (t.x.mn : Int), .int .i64 (t.x.mx : Int), .int .i64 (t.pl : Int), .int .i64 (t.no : Int), .bool t.beg] 83)).heap.size ≤ x) := fun x hx => by
        rcases unhide HV3 x hx with h | h
        · exact Or.inl h
        · exact Or.inr h
      have HO3' : Hid (Trns w3 0 (.slice av (ts.length + 1) capv') (ts ++ [t])) := by
        show World.ownsRow _ _ _ _ _ _ _
        rw [trnsCells_snoc, List.length_append]; exact unhide HO3
      have HBL := hide (belA (.cells #[.int .i64 (t.x.lo : Int), .int .i64 (t.x.hi : Int), .bool t.x.rest, .int .i64 (t.x.mn : Int), .int .i64 (t.x.mx : Int), .int .i64 (t.pl : Int), .int .i64 (t.no : Int), .bool t.beg] 83) (Below.refl w2.heap.size w2))
      have HITA := hide ((unhide HIT2).below (unhide HBL))
      have HIT3 := hide ((unhide HITA).setM (unhide HG3) (unhide HO3') (unhide HW3))
      have HF3' : Hid (Frm (⟨J, K, D, .slice ao ps.length capv, ps, b⟩ : Cx) w2 Pi (.slice am ts.length capm) (w3.setCell ⟨b.m, 0, none⟩ (.slice av (ts.length + 1) capv')) Pi (.slice av (ts.length + 1) capv')) := (Frm.below Pi _ (unhide HBL)).trans (Frm.setM (⟨J, K, D, .slice ao ps.length capv, ps, b⟩ : Cx) Pi (unhide HG3) (unhide HW3))
      have HF3 := hide ((unhide HF2).trans (unhide HF3'))
      have HLOC3 := hide ((unhide HLOC2).frm (unhide HIT2) (unhide HF3'))
      have HCL3 : Hid (Cl (pre ++ Hx.partF K ps d l u next i) Pi (w3.setCell ⟨b.m, 0, none⟩ (.slice av (ts.length + 1) capv'))) := by
        refine unhide HAB _ Pi w2 _ (unhide HCL2) (fun x hx => ?_) (unhide HF3').size
        have s1 := (unhide HIT2).sep x hx
        have l1 := Nat.lt_of_lt_of_le s1.2.1 (unhide HBL).size
        rw [(grown_set w3 b.m 0 (.slice av (ts.length + 1) capv')).block x (Nat.lt_of_lt_of_le l1 (unhide HG3).size) (fun e => s1.2.2.2.2.2.1 (Option.some.inj e)), (unhide HG3).block x l1 (fun e => s1.2.2.2.2.2.2.2.2.2 e.symm), (unhide HBL).block x s1.2.1]
      clear HIT2 HF2 HLOC2 HCL2 HF3' HITA HBL HO3 HO3' HG3 HV3 HW3 m0 m3 mf3 t0 t1 t2 t3 t4 t5 t6 t7 HNEM
      generalize w3.setCell ⟨b.m, 0, none⟩ (.slice av (ts.length + 1) capv') = w4 at *
      -- done
      obtain ⟨nn, hnn⟩ : ∃ nn, nn = nx t.pl + 1 := ⟨_, rfl⟩
      have hnnI : ((nx t.pl : Nat) : Int) + 1 = (nn : Int) := by omega
      have HBUMP : Hid ((fun q => if q = t.pl then nn else nx q) = Hx.bump nx t.pl) := by
        show _ = _
        funext q
        unfold Hx.bump
        by_cases e : q = t.pl
        · subst e; simp [hnn]
        · simp [e]
      have HNN := hide hnn
      clear hnn
      have hplI : (t.pl : Int) < (ps.length : Int) := by omega
      have d4 : w4.cell? ⟨b.d, 0, none⟩ = some (.slice (some ⟨b.gd, 0, none⟩) ps.length ps.length) := blk_cell (unhide HIT3).cd 0
      have t5 : w4.cell? ⟨tb, 5, none⟩ = some (.int .i64 (t.pl : Int)) := blk_cell (unhide HLOC3).blk 5
      have n4 : w4.cell? ⟨b.gd, t.pl, none⟩ = some (.int .i64 (nx t.pl : Int)) := ((unhide HIT3).rd.cellAt t.pl (by show t.pl < ps.length * 1; omega)).trans (natCells_at hpl)
      have nf : w4.frozen? ⟨b.gd, t.pl, none⟩ = false := (unhide HIT3).rd.frozenAt t.pl
      go_upto_region 11 with fail
      have HIT4 := hide ((unhide HIT3).setD t.pl nn)
      rw [unhide HBUMP] at HIT4
      have HF4' : Hid (Frm (⟨J, K, D, .slice ao ps.length capv, ps, b⟩ : Cx) w4 Pi (.slice av (ts.length + 1) capv') (w4.setCell ⟨b.gd, t.pl, none⟩ (.int .i64 (nn : Int))) Pi (.slice av (ts.length + 1) capv')) := Frm.put Pi _ b.gd t.pl _ (Or.inr (Or.inr (Or.inr rfl)))
      have HF4 := hide ((unhide HF3).trans (unhide HF4'))
      have HLOC4 := hide ((unhide HLOC3).frm (unhide HIT3) (unhide HF4'))
      have HCL4 : Hid (Cl (pre ++ Hx.partF K ps d l u next i) Pi (w4.setCell ⟨b.gd, t.pl, none⟩ (.int .i64 (nn : Int)))) := by
        refine unhide HAB _ Pi w4 _ (unhide HCL3) (fun x hx => ?_) (unhide HF4').size
        have s1 := (unhide HIT3).sep x hx
        exact (grown_set w4 b.gd t.pl (.int .i64 (nn : Int))).block x s1.2.1 (fun e => s1.2.2.2.2.2.2.2.2.1 (Option.some.inj e))
      clear HIT3 HF3 HLOC3 HCL3 HF4' d4 t5 n4 nf
      generalize w4.setCell ⟨b.gd, t.pl, none⟩ (.int .i64 (nn : Int)) = w5 at *
      -- resting
      obtain ⟨rr, hrr⟩ : ∃ rr, rr = r + mr := ⟨_, rfl⟩
      have hrw : IntKind.i64.wrap (r + mr) = rr := by rw [hrr]; exact IntWalk.i64_in _ ⟨by omega, by omega⟩
      have hrr9 : -1 ≤ rr ∧ rr ≤ 10 := by omega
      have HRR := hide hrr
      clear hrr
      have r5 : w5.cell? ⟨b.r, 0, none⟩ = some (.int .i64 r) := blk_cell (unhide HIT4).cr 0
      have rf5 : w5.frozen? ⟨b.r, 0, none⟩ = false := blk_free (unhide HIT4).cr 0
      have t0 : w5.cell? ⟨tb, 0, none⟩ = some (.int .i64 (t.x.lo : Int)) := blk_cell (unhide HLOC4).blk 0
      have t1 : w5.cell? ⟨tb, 1, none⟩ = some (.int .i64 (t.x.hi : Int)) := blk_cell (unhide HLOC4).blk 1
      have t2 : w5.cell? ⟨tb, 2, none⟩ = some (.bool t.x.rest) := blk_cell (unhide HLOC4).blk 2
      have t3 : w5.cell? ⟨tb, 3, none⟩ = some (.int .i64 (t.x.mn : Int)) := blk_cell (unhide HLOC4).blk 3
      have t4 : w5.cell? ⟨tb, 4, none⟩ = some (.int .i64 (t.x.mx : Int)) := blk_cell (unhide HLOC4).blk 4
      have t5 : w5.cell? ⟨tb, 5, none⟩ = some (.int .i64 (t.pl : Int)) := blk_cell (unhide HLOC4).blk 5
      have t6 : w5.cell? ⟨tb, 6, none⟩ = some (.int .i64 (t.no : Int)) := blk_cell (unhide HLOC4).blk 6
      have t7 : w5.cell? ⟨tb, 7, none⟩ = some (.bool t.beg) := blk_cell (unhide HLOC4).blk 7
      have r5A : ∀ o, (w5.alloc o).cell? ⟨b.r, 0, none⟩ = some (.int .i64 r) := fun o => cA o r5
      have rf5A : ∀ o, (w5.alloc o).frozen? ⟨b.r, 0, none⟩ = false := fun o => blk_free (bA o (unhide HIT4).cr) 0
      go_cut [] (fun wc => It w (⟨J, K, D, .slice ao ps.length capv, ps, b⟩ : Cx) wc (ts ++ [t]) rr (Hx.bump nx t.pl) uu (.slice av (ts.length + 1) capv') Pi ∧ Frm (⟨J, K, D, .slice ao ps.length capv, ps, b⟩ : Cx) w5 Pi (.slice av (ts.length + 1) capv') wc Pi (.slice av (ts.length + 1) capv') ∧ (∀ x, Pi x → wc.heap[x]? = w5.heap[x]?))
      case first =>
        go_region_with (go_at_call 71; refine (more_any t _).mono ?_; rw [← unhide HMR]; rintro e wx ⟨rfl, rfl⟩)
        all_goals
          go_wp2_with fail
          go_meet
          case rel => exact It.restStep (unhide HIT4) _ rr
      case rest =>
        obtain ⟨hit6, hfr6, hk6⟩ := hcut
        have HIT6 := hide hit6
        have HF6 := hide ((unhide HF4).trans hfr6)
        have HLOC6 := hide ((unhide HLOC4).frm (unhide HIT4) hfr6)
        have HCL6 : Hid (Cl (pre ++ Hx.partF K ps d l u next i) Pi wc) := unhide HAB _ Pi w5 _ (unhide HCL4) hk6 hfr6.size
        clear hit6 hfr6 hk6 HIT4 HF4 HLOC4 HCL4 r5 rf5 r5A rf5A t0 t1 t2 t3 t4 t5 t6 t7
        have g6 : wc.cell? ⟨b.g, 0, none⟩ = some (.func (.func 68) #[] #[.pointer (some ⟨b.p, 0, none⟩), .pointer (some ⟨b.d, 0, none⟩), .pointer (some ⟨b.r, 0, none⟩), .pointer (some ⟨b.m, 0, none⟩), .pointer (some ⟨b.u, 0, none⟩), .pointer (some ⟨b.g, 0, none⟩)]) := blk_cell (unhide HIT6).cg 0
        have HMAP : Hid ((l ++ [Hx.idxT ps t]).map (Hx.turnOfIdx ps) = ts ++ [t]) := by
          show _ = _
          rw [List.map_append, List.map_cons, List.map_nil, unhide HTO, unhide HTS]
        have HCALL : Hid (Calls Tryd.prog 68 #[.func (.yield yl) #[] #[], .pointer (some ⟨b.p, 0, none⟩), .pointer (some ⟨b.d, 0, none⟩), .pointer (some ⟨b.r, 0, none⟩), .pointer (some ⟨b.m, 0, none⟩), .pointer (some ⟨b.u, 0, none⟩), .pointer (some ⟨b.g, 0, none⟩)] wc (GoRes w (⟨J, K, D, .slice ao ps.length capv, ps, b⟩ : Cx) Cl Clx (pre ++ Hx.partF K ps d l u next i) (Hx.flagL (Hx.allO K (Hx.labs ps) d (l ++ [Hx.idxT ps t])) uu) (ts ++ [t]) rr (Hx.bump nx t.pl) uu (.slice av (ts.length + 1) capv') Pi wc)) := by
          have h1 := unhide IH (pre ++ Hx.partF K ps d l u next i) (l ++ [Hx.idxT ps t]) rr (Hx.bump nx t.pl) uu (.slice av (ts.length + 1) capv') Pi wc (by rw [unhide HMAP]; exact unhide HIT6) (unhide HCL6) (by rw [unhide HRR]; exact unhide HEND2) (fun j hj => by
            rcases List.mem_append.1 hj with h | h
            · exact unhide HIN j h
            · rw [List.mem_singleton.1 h]; exact unhide HIDX) (by have := unhide HLEN; rw [List.length_append]; show l.length + 1 + d = (Hx.labs ps).length; omega) (by have := unhide HUU; omega)
          rw [unhide HMAP, unhide HARGS] at h1
          exact h1
        go_wp2_with fail
        refine (unhide HCALL).mono ?_
        rintro e w7 ⟨P7, mv7, hit7, hfr7, hres7⟩
        obtain ⟨bb, rfl⟩ : ∃ bb, e = .returned (.bool bb) := by
          rcases hres7 with ⟨rfl, _⟩ | ⟨rfl, _⟩
          · exact ⟨true, rfl⟩
          · exact ⟨false, rfl⟩
        have HIT7 := hide hit7
        have HF7 := hide ((unhide HF6).trans hfr7)
        have HLOC7 := hide ((unhide HLOC6).frm (unhide HIT6) hfr7)
        have HRES7 := hide hres7
        clear hit7 hfr7 hres7 HIT6 HF6 HLOC6 HCL6 g6 HCALL
        -- resting, back
        have hrw2 : IntKind.i64.wrap (rr - mr) = r := by
          have e : rr - mr = r := by have := unhide HRR; omega
          rw [e]
          exact IntWalk.i64_in _ ⟨by omega, by omega⟩
        have r7 : w7.cell? ⟨b.r, 0, none⟩ = some (.int .i64 rr) := blk_cell (unhide HIT7).cr 0
        have rf7 : w7.frozen? ⟨b.r, 0, none⟩ = false := blk_free (unhide HIT7).cr 0
        have r7A : ∀ o, (w7.alloc o).cell? ⟨b.r, 0, none⟩ = some (.int .i64 rr) := fun o => cA o r7
        have rf7A : ∀ o, (w7.alloc o).frozen? ⟨b.r, 0, none⟩ = false := fun o => blk_free (bA o (unhide HIT7).cr) 0
        have t0 : w7.cell? ⟨tb, 0, none⟩ = some (.int .i64 (t.x.lo : Int)) := blk_cell (unhide HLOC7).blk 0
        have t1 : w7.cell? ⟨tb, 1, none⟩ = some (.int .i64 (t.x.hi : Int)) := blk_cell (unhide HLOC7).blk 1
        have t2 : w7.cell? ⟨tb, 2, none⟩ = some (.bool t.x.rest) := blk_cell (unhide HLOC7).blk 2
        have t3 : w7.cell? ⟨tb, 3, none⟩ = some (.int .i64 (t.x.mn : Int)) := blk_cell (unhide HLOC7).blk 3
        have t4 : w7.cell? ⟨tb, 4, none⟩ = some (.int .i64 (t.x.mx : Int)) := blk_cell (unhide HLOC7).blk 4
        have t5 : w7.cell? ⟨tb, 5, none⟩ = some (.int .i64 (t.pl : Int)) := blk_cell (unhide HLOC7).blk 5
        have t6 : w7.cell? ⟨tb, 6, none⟩ = some (.int .i64 (t.no : Int)) := blk_cell (unhide HLOC7).blk 6
        have t7 : w7.cell? ⟨tb, 7, none⟩ = some (.bool t.beg) := blk_cell (unhide HLOC7).blk 7
        go_upto_region 13 with fail
        go_cut [] (fun wc => It w (⟨J, K, D, .slice ao ps.length capv, ps, b⟩ : Cx) wc (ts ++ [t]) r (Hx.bump nx t.pl) uu mv7 P7 ∧ Frm (⟨J, K, D, .slice ao ps.length capv, ps, b⟩ : Cx) w7 P7 mv7 wc P7 mv7 ∧ (∀ x, P7 x → wc.heap[x]? = w7.heap[x]?))
        case first =>
          go_region_with (go_at_call 71; refine (more_any t _).mono ?_; rw [← unhide HMR]; rintro e wx ⟨rfl, rfl⟩)
          all_goals
            go_wp2_with fail
            go_meet
            case rel => exact It.restStep (unhide HIT7) _ r
        case rest =>
          obtain ⟨hit8, hfr8, hk8⟩ := hcut
          have HIT8 := hide hit8
          have HF8 := hide ((unhide HF7).trans hfr8)
          have HLOC8 := hide ((unhide HLOC7).frm (unhide HIT7) hfr8)
          have HK8 := hide hk8
          have HS8 := hide hfr8.size
          clear hit8 hfr8 hk8 HIT7 HF7 HLOC7 r7 rf7 r7A rf7A t0 t1 t2 t3 t4 t5 t6 t7
          -- done, back
          have hnn2 : (nn : Int) - 1 = ((nx t.pl : Nat) : Int) := by omega
          have HBACK : Hid ((fun q => if q = t.pl then nx t.pl else Hx.bump nx t.pl q) = nx) := by
            show _ = _
            funext q
            unfold Hx.bump
            by_cases e : q = t.pl
            · subst e; simp
            · simp [e]
          have d4 : wc.cell? ⟨b.d, 0, none⟩ = some (.slice (some ⟨b.gd, 0, none⟩) ps.length ps.length) := blk_cell (unhide HIT8).cd 0
          have t5 : wc.cell? ⟨tb, 5, none⟩ = some (.int .i64 (t.pl : Int)) := blk_cell (unhide HLOC8).blk 5
          have n4 : wc.cell? ⟨b.gd, t.pl, none⟩ = some (.int .i64 (nn : Int)) := by
            have h1 := ((unhide HIT8).rd.cellAt t.pl (by show t.pl < ps.length * 1; omega)).trans (natCells_at hpl)
            rw [h1, unhide HNN]
            simp [Hx.bump]
          have nf : wc.frozen? ⟨b.gd, t.pl, none⟩ = false := (unhide HIT8).rd.frozenAt t.pl
          go_upto_region 15 with fail
          have HIT9 := hide ((unhide HIT8).setD t.pl (nx t.pl))
          rw [unhide HBACK] at HIT9
          have HF9' : Hid (Frm (⟨J, K, D, .slice ao ps.length capv, ps, b⟩ : Cx) wc P7 mv7 (wc.setCell ⟨b.gd, t.pl, none⟩ (.int .i64 (nx t.pl : Int))) P7 mv7) := Frm.put P7 _ b.gd t.pl _ (Or.inr (Or.inr (Or.inr rfl)))
          have HF9 := hide ((unhide HF8).trans (unhide HF9'))
          have HLOC9 := hide ((unhide HLOC8).frm (unhide HIT8) (unhide HF9'))
          have HK9 : Hid (∀ x, P7 x → (wc.setCell ⟨b.gd, t.pl, none⟩ (.int .i64 (nx t.pl : Int))).heap[x]? = w7.heap[x]?) := fun x hx => by
            have s1 := (unhide HIT8).sep x hx
            rw [(grown_set wc b.gd t.pl (.int .i64 (nx t.pl : Int))).block x s1.2.1 (fun e => s1.2.2.2.2.2.2.2.2.1 (Option.some.inj e))]
            exact unhide HK8 x hx
          have HS9 := hide (Nat.le_trans (unhide HS8) (unhide HF9').size)
          clear HIT8 HF8 HLOC8 HK8 HS8 HF9' d4 t5 n4 nf
          generalize wc.setCell ⟨b.gd, t.pl, none⟩ (.int .i64 (nx t.pl : Int)) = w9 at *
          -- made, back
          have hlen7 : (ts ++ [t]).length = ts.length + 1 := by simp
          obtain ⟨g7, cap7, e7, _, _⟩ := own_pos (unhide HIT9).rm (by rw [hlen7]; omega)
          rw [hlen7] at e7
          subst e7
          have hcap7 : (ts.length : Int) ≤ (cap7 : Int) := by
            rcases (unhide HIT9).rm.2 with ⟨e, _⟩ | ⟨g', cap', cur, e, _, _, h4, _⟩
            · cases e
            · injection e with _ _ e3
              rw [hlen7] at h4
              omega
          have m9 : w9.cell? ⟨b.m, 0, none⟩ = some (.slice (some ⟨g7, 0, none⟩) (ts.length + 1) cap7) := blk_cell (unhide HIT9).cm 0
          have mf9 : w9.frozen? ⟨b.m, 0, none⟩ = false := blk_free (unhide HIT9).cm 0
          have HPOP := hide (trns_pop (unhide HIT9).rm)
          clear hlen7
          go_upto_region 16 with fail
          have HITB := hide ((unhide HIT9).setM (World.grownBy.refl _ _) (unhide HPOP) (fun x hx => Or.inl hx))
          have HFB' : Hid (Frm (⟨J, K, D, .slice ao ps.length capv, ps, b⟩ : Cx) w9 P7 (.slice (some ⟨g7, 0, none⟩) (ts.length + 1) cap7) (w9.setCell ⟨b.m, 0, none⟩ (.slice (some ⟨g7, 0, none⟩) ts.length cap7)) P7 (.slice (some ⟨g7, 0, none⟩) ts.length cap7)) := Frm.setM (⟨J, K, D, .slice ao ps.length capv, ps, b⟩ : Cx) P7 (World.grownBy.refl _ _) (fun x hx => Or.inl hx)
          have HFB := hide ((unhide HF9).trans (unhide HFB'))
          have HLOCB := hide ((unhide HLOC9).frm (unhide HIT9) (unhide HFB'))
          have HKB : Hid (∀ x, P7 x → (w9.setCell ⟨b.m, 0, none⟩ (.slice (some ⟨g7, 0, none⟩) ts.length cap7)).heap[x]? = w7.heap[x]?) := fun x hx => by
            have s1 := (unhide HIT9).sep x hx
            rw [(grown_set w9 b.m 0 (.slice (some ⟨g7, 0, none⟩) ts.length cap7)).block x s1.2.1 (fun e => s1.2.2.2.2.2.1 (Option.some.inj e))]
            exact unhide HK9 x hx
          have HSB := hide (Nat.le_trans (unhide HS9) (unhide HFB').size)
          clear HIT9 HF9 HLOC9 HK9 HS9 HFB' m9 mf9 HPOP
          generalize w9.setCell ⟨b.m, 0, none⟩ (.slice (some ⟨g7, 0, none⟩) ts.length cap7) = wb at *
          -- untried, back
          have huB : (uu : Int) - (later : Int) = (u : Int) := by omega
          have ub : wb.cell? ⟨b.u, 0, none⟩ = some (.int .i64 (uu : Int)) := blk_cell (unhide HITB).cu 0
          have ubf : wb.frozen? ⟨b.u, 0, none⟩ = false := blk_free (unhide HITB).cu 0
          go_upto_region 17 with fail
          have HITC := hide ((unhide HITB).setU u)
          have HFC' : Hid (Frm (⟨J, K, D, .slice ao ps.length capv, ps, b⟩ : Cx) wb P7 (.slice (some ⟨g7, 0, none⟩) ts.length cap7) (wb.setCell ⟨b.u, 0, none⟩ (.int .i64 (u : Int))) P7 (.slice (some ⟨g7, 0, none⟩) ts.length cap7)) := Frm.put P7 _ b.u 0 _ (Or.inr (Or.inr (Or.inl rfl)))
          have HFC := hide ((unhide HFB).trans (unhide HFC'))
          have HLOCC := hide ((unhide HLOCB).frm (unhide HITB) (unhide HFC'))
          have HKC : Hid (∀ x, P7 x → (wb.setCell ⟨b.u, 0, none⟩ (.int .i64 (u : Int))).heap[x]? = w7.heap[x]?) := fun x hx => by
            have s1 := (unhide HITB).sep x hx
            rw [(grown_set wb b.u 0 (.int .i64 (u : Int))).block x s1.2.1 (fun e => s1.2.2.2.2.2.2.1 (Option.some.inj e))]
            exact unhide HKB x hx
          have HSC := hide (Nat.le_trans (unhide HSB) (unhide HFC').size)
          clear HITB HFB HLOCB HKB HSB HFC' ub ubf
          generalize wb.setCell ⟨b.u, 0, none⟩ (.int .i64 (u : Int)) = wz at *
          have HUL : Hid (u + (next.length - 1 - i) = uu) := by show _ = _; have := unhide HUU; have := unhide HLATER; omega
          cases bb
          · have HX : Hid (∃ q, q <+: Hx.flagL (Hx.allO K (Hx.labs ps) d (l ++ [Hx.idxT ps t])) uu ∧ Clx (pre ++ Hx.partF K ps d l u next i ++ q) P7 w7) := by
              rcases unhide HRES7 with ⟨e, _⟩ | ⟨_, h⟩
              · cases e
              · exact h
            clear HRES7
            go_wp2_with fail
            show R (.returned (.bool false)) wz
            rw [← unhide HR]
            obtain ⟨q, hq1, hq2⟩ := unhide HX
            refine ⟨P7, _, unhide HITC, unhide HFC, Or.inr ⟨rfl, Hx.partF K ps d l u next i ++ q, ?_, ?_⟩⟩
            · have h1 := unhide HALL
              rw [← h1]
              refine List.IsPrefix.trans ?_ (Hx.partF_pre (show i + 1 ≤ next.length by omega))
              rw [unhide HSUC, unhide HUL]
              obtain ⟨q2, hq3⟩ := hq1
              exact ⟨q2, by rw [List.append_assoc, hq3]⟩
            · rw [← List.append_assoc]
              exact unhide HABX _ P7 w7 wz hq2 (unhide HKC) (unhide HSC)
          · have HX : Hid (Cl (pre ++ Hx.partF K ps d l u next (i + 1)) P7 wz) := by
              rcases unhide HRES7 with ⟨_, h⟩ | ⟨e, _⟩
              · rw [unhide HSUC, unhide HUL, ← List.append_assoc]
                exact unhide HAB _ P7 w7 wz h (unhide HKC) (unhide HSC)
              · cases e
            clear HRES7
            go_wp2_with fail
            go_roundg (next.length - (i + 1))
            case measure => omega
            case rel => exact ⟨i + 1, _, P7, by omega, rfl, by go_num, unhide HITC, unhide HFC, unhide HX, (unhide HLOCC).row, (unhide HLOCC).fn⟩
    · have hie : i = next.length := by omega
      have HFIN : Hid (Cl (pre ++ Hx.flagL (Hx.allO K (Hx.labs ps) (d + 1) l) u) Pi wr) := by
        have h1 := unhide HALL
        have h2 := hcl
        rw [hie, h1] at h2
        exact h2
      have HIT := hide hit
      have HFR := hide hfr
      have hiI : decide ((i : Int) < (next.length : Int)) = false := by simp; omega
      clear hit hfr hcl hnv hfn hie
      go_wp2_with fail
      show R (.returned (.bool true)) wr
      rw [← unhide HR]
      have h1 := unhide HIT
      have h2 := unhide HFR
      exact ⟨Pi, mvi, h1, h2, Or.inl ⟨rfl, unhide HFIN⟩⟩

end Go.Proofs.YtppcnlkhdgmaiaaDoor
