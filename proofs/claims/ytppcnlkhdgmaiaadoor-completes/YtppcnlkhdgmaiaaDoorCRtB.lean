/- What reading a whole table does: readTable answers the parsed table, or the place at which the text ceases to be one. -/
import Derived.Test.YtppcnlkhdgmaiaaDoorCRtA
import Derived.Test.YtppcnlkhdgmaiaaDoorCScA
namespace Go.Proofs.YtppcnlkhdgmaiaaDoor
open Go.RowKit

/-- A step of a table, cell by cell. -/
abbrev ptAgg (y : Hx.TStp) : Value := .agg #[.int .i64 (y.lo : Int), .int .i64 (y.hi : Int), .bool y.rest, .int .i64 (y.mn : Int), .int .i64 (y.mx : Int), .int .i64 (y.pl : Int), .int .i64 (y.no : Int), .bool (decide (0 ≤ y.inn)), .int .i64 (y.t : Int), .int .i64 y.out, .int .i64 y.inn]
theorem placed_at (s : ByteArray) (b : Nat) (st st2 : Hx.St) (y : Hx.TStp) (w : World) (h : Hx.ptF s st = (y, st2)) (hs : s.size ≤ 1000) (hp : st.pos ≤ s.size) (hb : 1 < b) (ht : Tab w) (hr : Rd 147 s b st w) :
    Calls Tryd.prog 78 #[.pointer (some ⟨b, 0, none⟩)] w fun e w' => e = .returned (ptAgg y) ∧ Rd 147 s b st2 w' ∧ w.grownBy w' (some b) := by
  refine (placed_any s b st w hs hp hb ht hr).mono ?_
  rintro e w' ⟨rfl, h1, h2⟩
  rw [h] at h1 ⊢
  exact ⟨rfl, h1, h2⟩

/-- The steps of a table, as they lie. -/
def ptsCells (l : List Hx.TStp) : List Value := l.flatMap ptCells
theorem ptsCells_snoc (l : List Hx.TStp) (y : Hx.TStp) : ptsCells (l ++ [y]) = ptsCells l ++ ptCells y := by simp [ptsCells]
theorem ptCells_one (y : Hx.TStp) : ∀ u ∈ ptCells y, u.oneCell' = true := by
  intro u hu
  simp only [ptCells, List.mem_cons, List.not_mem_nil, or_false] at hu
  rcases hu with rfl | rfl | rfl | rfl | rfl | rfl | rfl | rfl | rfl | rfl | rfl <;> rfl
theorem ptsCells_len (l : List Hx.TStp) : (ptsCells l).length = l.length * 11 := by
  induction l with
  | nil => rfl
  | cons y r ih =>
    show (ptCells y ++ ptsCells r).length = _
    rw [List.length_append, ih, List.length_cons]
    show 11 + _ = _
    omega
theorem ptsCells_at (l : List Hx.TStp) (j : Nat) (x : Hx.TStp) (h : l[j]? = some x) (t : Nat) (ht : t < 11) : (ptsCells l)[j * 11 + t]? = (ptCells x)[t]? := by
  induction l generalizing j with
  | nil => simp at h
  | cons y r ih =>
    have e : ptsCells (y :: r) = ptCells y ++ ptsCells r := rfl
    rw [e]
    have hl : (ptCells y).length = 11 := rfl
    cases j with
    | zero =>
      simp at h
      subst h
      rw [Nat.zero_mul, Nat.zero_add, List.getElem?_append_left (by omega)]
    | succ j =>
      rw [List.getElem?_append_right (by omega), hl, show (j + 1) * 11 + t - 11 = j * 11 + t by omega]
      exact ih j (by simpa using h)

/-- What lies in memory while a table is read: the answer's cells, the reader, the table so far. -/
structure Ht (s : ByteArray) (w w' : World) (st : Hx.St) (a : Array Value) : Prop where
  rd : Rd 147 s (w.heap.size + 1) st w'
  lo : w'.heap[w.heap.size + 1 + 1]? = some (.cells a 103 (0, 0))
  re : w'.heap[w.heap.size]? = some (.cells #[.int .i64 0, .slice none 0 0] 103 (0, 0))
  be : Below w.heap.size w w'

theorem Ht.tab {s w w' st a} (h : Ht s w w' st a) (ht : Tab w) : Tab w' := fun i hi => by
  have h1 := ht i hi
  have := World.block_lt_of_cell? w ⟨1, i, none⟩ h1
  rw [h.be.cell this]; exact h1
theorem Ht.call {s w w' w'' st st' a} (h : Ht s w w' st a) (hr : Rd 147 s (w.heap.size + 1) st' w'') (hg : w'.grownBy w'' (some (w.heap.size + 1))) : Ht s w w'' st' a :=
  ⟨hr, blk_kept h.lo hg (by simp), blk_kept h.re hg (by simp), h.be.grown hg h.be.size (by simp)⟩
theorem Ht.own {s w w' w'' st a} {row : Option Nat} (h : Ht s w w' st a) (hg : w'.grownBy w'' row) (hrow : ∀ k, row = some k → w.heap.size + 3 ≤ k) : Ht s w w'' st a :=
  ⟨h.rd.kept hg (fun e => by have := hrow _ e.symm; omega), blk_kept h.lo hg (fun e => by have := hrow _ e.symm; omega), blk_kept h.re hg (fun e => by have := hrow _ e.symm; omega), h.be.grown hg h.be.size (fun k e => by have := hrow k e; omega)⟩
theorem Ht.store {s w w' st a} (h : Ht s w w' st a) (o : Nat) (v : Value) : Ht s w (w'.setCell ⟨w.heap.size + 1 + 1, o, none⟩ v) st (a.setIfInBounds o v) :=
  ⟨h.rd.set_other (by omega) _ _, blk_set h.lo _ _, blk_set_other h.re (by omega) _ _, h.be.setCell (by show _ ≤ w.heap.size + 1 + 1; omega) _⟩
theorem Ht.init (s : ByteArray) (w : World) : Ht s w (((w.alloc (.cells #[.int .i64 0, .slice none 0 0] 103)).alloc (.cells #[.string s, .int .i64 0, .bool false] 147)).alloc (.cells #[.int .i64 0, .slice none 0 0] 103)) ⟨0, false⟩ #[.int .i64 0, .slice none 0 0] := by
  have g1 := (Below.refl w.heap.size w).alloc (Nat.le_refl _) (.cells #[.int .i64 0, .slice none 0 0] 103)
  have b1 := blk_new w #[.int .i64 0, .slice none 0 0] 103
  have s1 := size_alloc_ w (.cells #[.int .i64 0, .slice none 0 0] 103)
  generalize w.alloc (.cells #[.int .i64 0, .slice none 0 0] 103) = w1 at *
  have g2 := g1.alloc (by omega) (.cells #[.string s, .int .i64 0, .bool false] 147)
  have b2 := blk_new w1 #[.string s, .int .i64 0, .bool false] 147
  have s2 := size_alloc_ w1 (.cells #[.string s, .int .i64 0, .bool false] 147)
  have b12 := blk_kept b1 (grown_alloc w1 (.cells #[.string s, .int .i64 0, .bool false] 147) none) (by simp)
  generalize w1.alloc (.cells #[.string s, .int .i64 0, .bool false] 147) = w2 at *
  have g3 := g2.alloc (by omega) (.cells #[.int .i64 0, .slice none 0 0] 103)
  have b3 := blk_new w2 #[.int .i64 0, .slice none 0 0] 103
  have b23 := blk_kept b2 (grown_alloc w2 (.cells #[.int .i64 0, .slice none 0 0] 103) none) (by simp)
  have b13 := blk_kept b12 (grown_alloc w2 (.cells #[.int .i64 0, .slice none 0 0] 103) none) (by simp)
  rw [s2, s1] at b3
  rw [s1] at b23
  exact ⟨b23, b3, b13, g3⟩

theorem Tryd.infoPT : (Tryd.prog.info? 153).map (fun i => (i.zero, i.size, i.bytes)) = some (some (.agg #[.int .i64 0, .int .i64 0, .bool false, .int .i64 0, .int .i64 0, .int .i64 0, .int .i64 0, .bool false, .int .i64 0, .int .i64 0, .int .i64 0]), 11, 88) := by kernel_rfl

/-- How far reading a table has come. -/
def RtOn (s : ByteArray) (st : Hx.St) (acc : List Hx.TStp) : Prop := (st.bad = false ∧ Hx.tablesF s st acc = Hx.tableF s) ∨ (st.bad = true ∧ (Hx.tableF s).1 = st)
theorem RtOn.start (s : ByteArray) : RtOn s (Hx.theadF s).2 [] := by
  cases h : (Hx.theadF s).2.bad
  · exact Or.inl ⟨h, rfl⟩
  · refine Or.inr ⟨h, ?_⟩
    rw [Hx.tableF, Hx.tablesF_end (by simp [h])]
theorem RtOn.next {s : ByteArray} {st : Hx.St} {acc : List Hx.TStp} (h : RtOn s st acc) (hb : st.bad = false) (hl : st.pos < s.size) : RtOn s (Hx.ptF s st).2 (acc ++ [(Hx.ptF s st).1]) := by
  rcases h with ⟨_, h⟩ | ⟨h, _⟩
  · rw [Hx.tablesF_more hb hl] at h
    cases h2 : (Hx.ptF s st).2.bad
    · left
      have h3 : (Hx.tstepF s st).2.bad = false := by rw [← Hx.ptF_st]; exact h2
      rw [Hx.ptF_val s st h3] at h2 ⊢
      exact ⟨h2, h⟩
    · right
      refine ⟨h2, ?_⟩
      rw [Hx.ptF_st] at h2 ⊢
      rw [← h, Hx.tablesF_end (by simp [h2])]
  · rw [hb] at h; cases h
theorem RtOn.ends {s : ByteArray} {st : Hx.St} {acc : List Hx.TStp} (h : RtOn s st acc) (hb : st.bad = false) (hl : s.size ≤ st.pos) : Hx.tableF s = (st, acc) := by
  rcases h with ⟨_, h⟩ | ⟨h, _⟩
  · rw [← h, Hx.tablesF_end (by omega)]
  · rw [hb] at h; cases h
theorem RtOn.fails {s : ByteArray} {st : Hx.St} {acc : List Hx.TStp} (h : RtOn s st acc) (hb : st.bad = true) : (Hx.tableF s).1 = st := by
  rcases h with ⟨h, _⟩ | ⟨_, h⟩
  · rw [hb] at h; cases h
  · exact h
theorem theadF_le (s : ByteArray) : (Hx.theadF s).2.pos ≤ s.size := Hx.numF_le (Hx.takeF_le (by omega) (Nat.zero_le _))
theorem ptF_gt {s : ByteArray} {st : Hx.St} (hl : st.pos < s.size) (hb : st.bad = false) : (if (Hx.ptF s st).2.bad = false ∧ (Hx.ptF s st).2.pos < s.size then s.size - (Hx.ptF s st).2.pos else 0) < s.size - st.pos := by
  have := Hx.mT_lt hb hl
  rw [Hx.ptF_st]
  have e : Hx.mT s st = s.size - st.pos := by simp [Hx.mT, hb, hl]
  rw [e] at this
  exact this
theorem ptF_len {s : ByteArray} {st : Hx.St} (hb : (Hx.ptF s st).2.bad = false) : st.pos < (Hx.ptF s st).2.pos := by
  rw [Hx.ptF_st] at hb ⊢
  exact Hx.tstepF_gt hb

set_option maxRecDepth 100000 in
set_option maxHeartbeats 4000000 in
theorem readtable_any (s : ByteArray) (w : World) (hs : s.size ≤ 400) (ht : Tab w) :
    Calls Tryd.prog 58 #[.string s] w fun e w' => Below w.heap.size w w' ∧
      (((Hx.tableF s).1.bad = true ∧ e = .returned (.tuple #[.agg #[.int .i64 0, .slice none 0 0], .int .i64 ((Hx.tableF s).1.pos : Int), .bool false])) ∨
       ((Hx.tableF s).1.bad = false ∧ ∃ v, e = .returned (.tuple #[.agg #[.int .i64 ((Hx.theadF s).1 : Int), v], .int .i64 0, .bool true]) ∧ w'.ownsRow w.heap.size 153 11 v (Hx.tableF s).2.length (ptsCells (Hx.tableF s).2) ∧ (Hx.tableF s).2.length ≤ 401)) := by
  have HT : Hid (Tab w) := ht
  have hN : 1 < w.heap.size := ht.pos
  have hs1 : s.size ≤ 1000 := by omega
  clear ht
  obtain ⟨i0, hi, hz0, hz1, hz2⟩ := info_parts Tryd.infoPT
  have HI := hide hi
  have HZ0 := hide hz0
  have HZ1 := hide hz1
  have HZ2 := hide hz2
  clear hi hz0 hz1 hz2
  go_enter Tryd.func58, Tryd.ntmps58
  go_wp2_with fail
  have h0 := Ht.init s w
  have HH := hide h0
  refine (take_any s _ ⟨0, false⟩ _ 106 _ hs1 (Nat.zero_le _) rfl (by omega) h0.rd).mono ?_
  clear h0
  rintro e w1 ⟨rfl, hr1, hg1⟩
  have H1 := hide ((unhide HH).call hr1 hg1)
  clear hr1 hg1 HH
  go_wp2_with fail
  refine (number_any s _ _ _ 1 _ hs1 (Hx.takeF_le (by omega) (Nat.zero_le _)) (by omega) rfl (by omega) ((unhide H1).tab HT.out) (unhide H1).rd).mono ?_
  rintro e w2 ⟨rfl, hr2, hg2⟩
  have H2 : Hid (Ht s w w2 (Hx.theadF s).2 _) := ((unhide H1).call hr2 hg2)
  clear hr2 hg2 H1
  have P2 : Hid ((Hx.theadF s).2.pos ≤ s.size) := theadF_le s
  have c0 : w2.cell? ⟨w.heap.size + 1 + 1, 0, none⟩ = some (.int .i64 0) := blk_cell (unhide H2).lo 0
  have f0 := blk_free (unhide H2).lo 0
  go_wp2_with fail
  have H3 : Hid (Ht s w _ _ #[.int .i64 ((Hx.theadF s).1 : Int), .slice none 0 0]) := ((unhide H2).store 0 (.int .i64 ((Hx.theadF s).1 : Int)))
  clear H2 c0 f0
  go_loopg [] (Hx.mT s (Hx.theadF s).2) (fun gk wr => ∃ (st' : Hx.St) (acc : List Hx.TStp) (v : Value), st'.pos ≤ s.size ∧ gk = Hx.mT s st' ∧ (st'.bad = false → acc.length ≤ st'.pos) ∧ Ht s w wr st' #[.int .i64 ((Hx.theadF s).1 : Int), v] ∧ wr.ownsRow (w.heap.size + 3) 153 11 v acc.length (ptsCells acc) ∧ RtOn s st' acc)
  case atStart => exact ⟨_, [], _, P2.out, rfl, fun _ => Nat.zero_le _, unhide H3, World.ownsRow_nil _ _ _ _, RtOn.start s⟩
  case round =>
    clear H3 P2
    obtain ⟨st', acc, v, hpos, rfl, hlen, hhd, hvs, hon⟩ := hrel
    obtain ⟨ao, cap, rfl⟩ := own_form hvs
    have hbig : w.heap.size + 3 ≤ wr.heap.size := lt_of_block hhd.lo
    have HHD := hide hhd
    have HVS := hide hvs
    have HON := hide hon
    have cL : wr.cell? ⟨w.heap.size + 1 + 1, 1, none⟩ = some (.slice ao acc.length cap) := blk_cell hhd.lo 1
    have fL := blk_free hhd.lo 1
    have d2 := hhd.rd.c2
    have d1 := hhd.rd.c1
    have e0 : wr.cell? ⟨w.heap.size, 0, none⟩ = some (.int .i64 0) := blk_cell hhd.re 0
    have e1 : wr.cell? ⟨w.heap.size, 1, none⟩ = some (.slice none 0 0) := blk_cell hhd.re 1
    have ef := blk_free hhd.re
    clear hhd hvs hon
    cases hbad : st'.bad
    · rw [hbad] at d2
      have HBAD := hide hbad
      have hal := hlen hbad
      clear hbad hlen
      by_cases hend : s.size ≤ st'.pos
      · have HPR := hide ((unhide HON).ends (unhide HBAD) hend)
        have g0 : wr.cell? ⟨w.heap.size + 1 + 1, 0, none⟩ = some (.int .i64 ((Hx.theadF s).1 : Int)) := blk_cell (unhide HHD).lo 0
        have HE := hide hend
        clear hend
        go_wp2_with fail
        refine (ended_yes s _ st' _ hs1 hpos HE.out (unhide HHD).rd).mono ?_
        rintro e w7 ⟨rfl, n7, rfl⟩
        go_wp2_with fail
        refine bodyPost_ret (v := .tuple #[.agg #[.int .i64 ((Hx.theadF s).1 : Int), .slice ao acc.length cap], .int .i64 0, .bool true]) (by simp [results, Tryd.results58, go_sem, e0, e1, Hx.theadF]) rfl ?_
        have hle := Nat.le_refl w.heap.size
        have hlt3 : w.heap.size < w.heap.size + 3 := by omega
        refine ⟨((below_drewN (unhide HHD).be n7).setCell hle _).setCell hle _, Or.inr ⟨by rw [unhide HPR]; exact unhide HBAD, _, rfl, ?_, ?_⟩⟩
        · rw [unhide HPR]
          exact own_mono ((((unhide HVS).kept (grown_drewN _ n7 (some 0)) (own_ne (unhide HVS) (by omega))).kept (grown_set _ _ _ _) (own_ne (unhide HVS) hlt3)).kept (grown_set _ _ _ _) (own_ne (unhide HVS) hlt3)) (by omega)
        · rw [unhide HPR]; show acc.length ≤ 401; omega
      · have HE : Hid (st'.pos < s.size) := show _ < _ by omega
        have HNX := hide ((unhide HON).next (unhide HBAD) HE.out)
        have HMT := hide (Hx.mT_lt (unhide HBAD) HE.out)
        rw [← Hx.ptF_st] at HMT
        have hple := Hx.ptF_le (s := s) (st := st') hpos
        have HLN := hide (ptF_len (s := s) (st := st'))
        obtain ⟨⟨y, st2⟩, hy⟩ : ∃ r, Hx.ptF s st' = r := ⟨_, rfl⟩
        rw [hy] at HNX HMT hple HLN
        have HY := hide hy
        clear hend hy
        go_wp2_with fail
        refine (ended_no s _ st' _ hs1 hpos HE.out (unhide HHD).rd).mono ?_
        rintro e w7 ⟨rfl, n7, rfl⟩
        have HHD7 : Hid (Ht s w (wr.drewN n7) st' _) := ⟨(unhide HHD).rd, (unhide HHD).lo, (unhide HHD).re, below_drewN (unhide HHD).be _⟩
        have HVS7 := hide ((unhide HVS).kept (grown_drewN wr n7 (some 0)) (own_ne (unhide HVS) (by omega)))
        have hbig7 : w.heap.size + 3 ≤ (wr.drewN n7).heap.size := lt_of_block (unhide HHD7).lo
        go_upto_region 6 with fail
        clear cL fL d1 d2 e0 e1 ef HHD HVS hbig
        generalize wr.drewN n7 = w8 at *
        have cL : w8.cell? ⟨w.heap.size + 1 + 1, 1, none⟩ = some (.slice ao acc.length cap) := blk_cell (unhide HHD7).lo 1
        have fL := blk_free (unhide HHD7).lo 1
        go_region_law (first
            | (refine step_append_own rfl (.tmp 26) (.tmp 29) 101 rfl (w.heap.size + 3) 153 i0 (.agg #[.int .i64 0, .int .i64 0, .bool false, .int .i64 0, .int .i64 0, .int .i64 0, .int .i64 0, .bool false, .int .i64 0, .int .i64 0, .int .i64 0]) 11 88 Tryd.underlying101 (unhide HI) (unhide HZ0) (unhide HZ1) (unhide HZ2) rfl (by decide) (.slice ao acc.length cap) acc.length (ptsCells acc) (by simp [Act.eval]) ((unhide V1).alloc _) ⟨w1.heap.size, 0, none⟩ 1 1 (ptCells y) (by simp [Act.eval]) rfl (news_new w1 (ptCells y) 153) (ptCells_one y) (by unfold maxLen; omega) (by omega) (by simp; omega) ?_; intro v' w3 hown' hgrow'; obtain ⟨ao3, cap3, rfl⟩ := own_form hown'; have H3 := hide (((unhide H1).own (grown_alloc w1 _ none) (by simp)).own hgrow' (fun k e => ((unhide V1).lt k e).1)); have cL3 : w3.cell? ⟨w.heap.size + 1 + 1, 1, none⟩ = some (.slice ao acc.length cap) := blk_cell (unhide H3).lo 1; have fL3 := blk_free (unhide H3).lo 1; have O3 := hide hown'; clear hown' hgrow')
            | (go_simp; go_wp2_with (go_at_call 78; refine (placed_at s (w.heap.size + 1) st' st2 y _ (unhide HY) hs1 hpos (by omega) (by exact (unhide HHD7).tab HT.out) (by exact (unhide HHD7).rd)).mono ?_; rintro e w1 ⟨rfl, hr1, hg1⟩; have hg1' := grown_of_drew hg1; have H1 := hide ((unhide HHD7).call hr1 hg1'); have V1 := hide ((unhide HVS7).kept hg1' (own_ne (unhide HVS7) (by omega))); have hb1 : w.heap.size + 3 ≤ w1.heap.size := lt_of_block (unhide H1).lo; have cL1 : w1.cell? ⟨w.heap.size + 1 + 1, 1, none⟩ = some (.slice ao acc.length cap) := blk_cell (unhide H1).lo 1; have fL1 := blk_free (unhide H1).lo 1; have cL1a : (w1.alloc (.cells (ptCells y).toArray 153)).cell? ⟨w.heap.size + 1 + 1, 1, none⟩ = some (.slice ao acc.length cap) := (grown_alloc w1 _ none).cell cL1 (by simp); simp only [ptCells] at cL1a; clear hr1 hg1 hg1')))
        all_goals
          go_wp2_with fail
          go_roundg (Hx.mT s st2)
          case measure => exact unhide HMT
          case rel =>
            refine ⟨st2, acc ++ [y], _, hple, rfl, fun e => by have := unhide HLN e; simp at this ⊢; omega, (unhide H3).store 1 _, ?_, unhide HNX⟩
            rw [ptsCells_snoc, List.length_append]
            exact (unhide O3).kept (grown_set _ _ _ _) (own_ne (unhide O3) (by omega))
    · have HPR := hide ((unhide HON).fails hbad)
      have HBAD := hide hbad
      rw [hbad] at d2
      clear hbad hlen HVS HON
      go_wp2_with fail
      go_region
      all_goals
        go_wp2_with fail
        refine bodyPost_ret (v := .tuple #[.agg #[.int .i64 0, .slice none 0 0], .int .i64 (st'.pos : Int), .bool false]) (by simp [results, Tryd.results58, go_sem, e0, e1]) rfl ?_
        have hle := Nat.le_refl w.heap.size
        refine ⟨?_, Or.inl ⟨by rw [unhide HPR]; exact unhide HBAD, by rw [unhide HPR]⟩⟩
        first
          | exact (((unhide HHD).be.setCell hle _).setCell hle _).drew
          | exact ((unhide HHD).be.drew.setCell hle _).setCell hle _

end Go.Proofs.YtppcnlkhdgmaiaaDoor
