/- What bestTimetable does: the best of the orders that are gone through. -/
import Derived.Test.YtppcnlkhdgmaiaaDoorCPlP
namespace Go.Proofs.YtppcnlkhdgmaiaaDoor
open Go.RowKit

attribute [local go_sem] Oper.semAt_some

theorem It.addP {w W W' : World} {c : Cx} {ts : List Hx.Trn} {r : Int} {nx : Nat → Nat} {u : Nat} {mv : Value} {P Q : Nat → Prop} (h : It w c W ts r nx u mv P) (hb : Below W.heap.size W W') (hQ : ∀ x, Q x → W.heap.size ≤ x ∧ x < W'.heap.size) : It w c W' ts r nx u mv (fun x => P x ∨ Q x) := by
  have h' := h.below hb
  refine ⟨h'.be, h'.cp, h'.cd, h'.rd, h'.cr, h'.cm, h'.rm, h'.cu, h'.cg, h'.lo, h'.ne, fun x hx => ?_⟩
  rcases hx with hx | hx
  · exact h'.sep x hx
  · obtain ⟨q1, q2⟩ := hQ x hx
    have a1 := lt_of_block h.cp
    have a2 := lt_of_block h.cd
    have a3 := lt_of_block h.cr
    have a4 := lt_of_block h.cm
    have a5 := lt_of_block h.cu
    have a6 := lt_of_block h.cg
    have a7 := (h.rd.lt c.b.gd rfl).2
    have a8 := h.be.size
    refine ⟨by omega, q2, by omega, by omega, by omega, by omega, by omega, by omega, by omega, fun e => ?_⟩
    have := (h.rm.lt x e).2
    omega
theorem ClB.abide (w : World) (J K D : Nat) (v : Value) (ps : List (List Hx.Stp)) (N yl df : Nat) (rec : LoopState → Option Code → Loop) : Abide (ClB w J K D v ps N yl df rec) := by
  rintro pre P W W' ⟨⟨ov, tv, en, h⟩, h2, h3, h4, h5, h6, h7⟩ hk hs
  exact ⟨⟨ov, tv, en, h.keep fun x y t f hp hx => (hk x hp).trans hx⟩, h2, h3, h4, (hk _ h3).trans h5, (hk _ h4).trans h6, fun x hx => ⟨(h7 x hx).1, Nat.lt_of_lt_of_le (h7 x hx).2 hs⟩⟩
theorem CxB.abide (w : World) (J K D : Nat) (v : Value) (ps : List (List Hx.Stp)) (N yl df : Nat) (rec : LoopState → Option Code → Loop) : Abide (CxB w J K D v ps N yl df rec) := by
  rintro pre P W W' ⟨⟨ov, tv, en, h⟩, h2, h3, h4, h5, h6, h7⟩ hk hs
  exact ⟨⟨ov, tv, en, h.keep fun x y t f hp hx => (hk x hp).trans hx⟩, h2, h3, h4, (hk _ h3).trans h5, (hk _ h4).trans h6, fun x hx => ⟨(h7 x hx).1, Nat.lt_of_lt_of_le (h7 x hx).2 hs⟩⟩

/-- What bestTimetable answers. -/
def BestRes (w : World) (J K D : Nat) (ps : List (List Hx.Stp)) (N : Nat) (e : Ending) (w' : World) : Prop :=
  ∃ ov tv en, e = .returned (.tuple #[.agg #[ov, tv, .int .i64 en], .bool (Hx.bestF J D ps (((Hx.ordersF K ps).take N).map (·.1))).isSome, .bool (Hx.lastB ((Hx.ordersF K ps).take N))]) ∧ Below w.heap.size w w' ∧
    (Hx.bestF J D ps (((Hx.ordersF K ps).take N).map (·.1)) = none → ov = .slice none 0 0 ∧ tv = .slice none 0 0 ∧ en = 0) ∧
    ∀ b, Hx.bestF J D ps (((Hx.ordersF K ps).take N).map (·.1)) = some b → en = b.e ∧ Trns w' w.heap.size ov (b.o.map (Hx.turnOfIdx ps)) ∧ w'.ownsRow w.heap.size 3 1 tv b.o.length (intCells b.o.length b.f)

set_option maxRecDepth 100000 in
set_option maxHeartbeats 8000000 in
theorem best_any (J K D N base : Nat) (v : Value) (ps : List (List Hx.Stp)) (w : World) (hN : 0 < N) (hN2 : N ≤ 1000) (hps : Plts w base v ps) (hpn : 0 < ps.length) (hpl : ps.length ≤ 121) (hg : ∀ b, GoodC ⟨J, K, D, v, ps, b⟩) :
    Calls Tryd.prog 34 #[.agg #[.int .i64 (J : Int), .int .i64 (K : Int), .int .i64 (D : Int), v], .int .i64 (N : Int)] w (BestRes w J K D ps N) := by
  obtain ⟨ao, capv, rfl⟩ : ∃ ao cap, v = .slice ao ps.length cap := by
    obtain ⟨vs, h1, _⟩ := hps
    exact own_form h1
  have HPS := hide hps
  clear hps
  have hNI : ((N : Int) == 0) = false := by rw [beq_eq_false_iff_ne]; omega
  refine (callsIn_wide (n := 9)).1 (callsIn_of_wp_marks Tryd.func34 rfl trivial ?_ rfl)
  refine wpIn_wide.2 ?_
  simp only [Tryd.ntmps34, List.size_toArray, List.length_cons, List.length_nil, Nat.reduceAdd, Nat.reduceSub, Array.replicate_succ, Array.replicate_zero, List.push_toArray, List.append_toArray, List.nil_append, List.cons_append]
  have HBE5 := hide (belA (.cells #[.int .i64 (N : Int)] 3) (belA (.cells #[.bool false] 4) (belA (.cells #[.bool false] 4) (belA (.cells #[.slice none 0 0, .slice none 0 0, .int .i64 0] 89) (belA (.cells #[.int .i64 (J : Int), .int .i64 (K : Int), .int .i64 (D : Int), .slice ao ps.length capv] 75) (Below.refl w.heap.size w))))))
  have HK65 : Hid ((((((w.alloc (.cells #[.int .i64 (J : Int), .int .i64 (K : Int), .int .i64 (D : Int), .slice ao ps.length capv] 75)).alloc (.cells #[.slice none 0 0, .slice none 0 0, .int .i64 0] 89)).alloc (.cells #[.bool false] 4)).alloc (.cells #[.bool false] 4)).alloc (.cells #[.int .i64 (N : Int)] 3)).heap[w.heap.size]? = some (.cells #[.int .i64 (J : Int), .int .i64 (K : Int), .int .i64 (D : Int), .slice ao ps.length capv] 75 (0, 0))) := bA _ (bA _ (bA _ (bA _ (blk_new w _ _))))
  have HK79 : Hid ((((((w.alloc (.cells #[.int .i64 (J : Int), .int .i64 (K : Int), .int .i64 (D : Int), .slice ao ps.length capv] 75)).alloc (.cells #[.slice none 0 0, .slice none 0 0, .int .i64 0] 89)).alloc (.cells #[.bool false] 4)).alloc (.cells #[.bool false] 4)).alloc (.cells #[.int .i64 (N : Int)] 3)).heap[w.heap.size + 1]? = some (.cells #[.slice none 0 0, .slice none 0 0, .int .i64 0] 89 (0, 0))) := bA _ (bA _ (bA _ (bN _ _ (by simp))))
  have HK4a : Hid ((((((w.alloc (.cells #[.int .i64 (J : Int), .int .i64 (K : Int), .int .i64 (D : Int), .slice ao ps.length capv] 75)).alloc (.cells #[.slice none 0 0, .slice none 0 0, .int .i64 0] 89)).alloc (.cells #[.bool false] 4)).alloc (.cells #[.bool false] 4)).alloc (.cells #[.int .i64 (N : Int)] 3)).heap[w.heap.size + 1 + 1]? = some (.cells #[.bool false] 4 (0, 0))) := bA _ (bA _ (bN _ _ (by simp)))
  have HK4b : Hid ((((((w.alloc (.cells #[.int .i64 (J : Int), .int .i64 (K : Int), .int .i64 (D : Int), .slice ao ps.length capv] 75)).alloc (.cells #[.slice none 0 0, .slice none 0 0, .int .i64 0] 89)).alloc (.cells #[.bool false] 4)).alloc (.cells #[.bool false] 4)).alloc (.cells #[.int .i64 (N : Int)] 3)).heap[w.heap.size + 1 + 1 + 1]? = some (.cells #[.bool false] 4 (0, 0))) := bA _ (bN _ _ (by simp))
  have HK3 : Hid ((((((w.alloc (.cells #[.int .i64 (J : Int), .int .i64 (K : Int), .int .i64 (D : Int), .slice ao ps.length capv] 75)).alloc (.cells #[.slice none 0 0, .slice none 0 0, .int .i64 0] 89)).alloc (.cells #[.bool false] 4)).alloc (.cells #[.bool false] 4)).alloc (.cells #[.int .i64 (N : Int)] 3)).heap[w.heap.size + 1 + 1 + 1 + 1]? = some (.cells #[.int .i64 (N : Int)] 3 (0, 0))) := bN _ _ (by simp)
  have HSZ5 : Hid ((((((w.alloc (.cells #[.int .i64 (J : Int), .int .i64 (K : Int), .int .i64 (D : Int), .slice ao ps.length capv] 75)).alloc (.cells #[.slice none 0 0, .slice none 0 0, .int .i64 0] 89)).alloc (.cells #[.bool false] 4)).alloc (.cells #[.bool false] 4)).alloc (.cells #[.int .i64 (N : Int)] 3)).heap.size = w.heap.size + 5) := by show _ = _; simp
  go_wp2_with fail
  generalize ((((w.alloc (.cells #[.int .i64 (J : Int), .int .i64 (K : Int), .int .i64 (D : Int), .slice ao ps.length capv] 75)).alloc (.cells #[.slice none 0 0, .slice none 0 0, .int .i64 0] 89)).alloc (.cells #[.bool false] 4)).alloc (.cells #[.bool false] 4)).alloc (.cells #[.int .i64 (N : Int)] 3) = W5 at *
  refine (orders47_any w W5 J K D base _ ps (unhide HPS) hpn hpl (unhide HBE5) (fun x => w.heap.size ≤ x ∧ x < w.heap.size + 5) (fun x hx => by rw [unhide HSZ5]; exact hx)).mono ?_
  rintro e W6 ⟨b, rfl, hit, hb6⟩
  have HIT := hide hit
  have HB6 := hide hb6
  clear hit hb6
  go_wp2_with fail
  refine range_wp rfl (enters_of Tryd.func72 (by kernel_rfl) rfl) ?_
  intro fn rec hrec
  have hgood := hg b
  obtain ⟨yl, hyl⟩ : ∃ yl, yl = W6.heap.size + 1 := ⟨_, rfl⟩
  have HYL := hide hyl
  rw [← hyl]
  clear hyl
  have hY : YSaid w ⟨J, K, D, .slice ao ps.length capv, ps, b⟩ yl (ClB w J K D (.slice ao ps.length capv) ps N yl W6.heap.size rec) (CxB w J K D (.slice ao ps.length capv) ps N yl W6.heap.size rec) := by
    intro m pre o fl sv P W hcl hbe hsv hin hlen hsb
    obtain ⟨⟨ov, tv, en, hbi⟩, hpre, hPy, hPd, hl, hdf, hPsep0⟩ := hcl
    have HPSEP := hide hPsep0
    clear hPsep0
    refine round_at (L := rec .ready none) hl (by rw [hrec]) (by rw [hrec]; rfl) (a₁ := ?a1) ?assign ?body
    case assign =>
      simp only [hrec]
      intro K0 hK
      gi_wp2
      exact hK
    case body =>
      obtain ⟨gs, caps, rfl, hgs1, hgs2⟩ := own_pos hsv (by rw [List.length_map, hlen]; exact hgood.some)
      have ny : ∀ {x : Nat} {y : Array Value} {t : TypeId} {f : Nat × Nat}, W.heap[x]? = some (.cells y t f) → x ≠ yl := fun hx e => by subst e; rw [hl] at hx; cases hx
      have hbib := hbi.keep (W' := W.putObj yl (.loop { rec .ready none with state := .busy })) (fun x y t f _ hx => (World.putObj_heap_other (ny hx)).trans hx)
      have hgw : W.grownBy (W.putObj yl (.loop { rec .ready none with state := .busy })) (some yl) := grownBy_putObj' W yl _
      have hsvb : Trns (W.putObj yl (.loop { rec .ready none with state := .busy })) 0 (.slice (some ⟨gs, 0, none⟩) (o.map (Hx.turnOfIdx ps)).length caps) (o.map (Hx.turnOfIdx ps)) := own_of_kept (own_mono hsv (Nat.zero_le _)) (fun x hx => World.putObj_heap_other (fun e => hsb yl (by rw [← e]; exact hx) hPy))
      have hpsb : Plts (W.putObj yl (.loop { rec .ready none with state := .busy })) base (.slice ao ps.length capv) ps := by
        have hy1 : w.heap.size ≤ yl := by rw [unhide HYL]; have := (unhide HB6).size; have := (unhide HBE5).size; omega
        exact (unhide HPS).below (hbe.grown hgw hbe.size (fun k e => by cases e; exact hy1))
      have htt := ttable_any J K D (.slice ao ps.length capv) (.slice (some ⟨gs, 0, none⟩) (o.map (Hx.turnOfIdx ps)).length caps) base ps (o.map (Hx.turnOfIdx ps)) _ hpsb hpn hpl hsvb (by rw [List.length_map, hlen]; exact Nat.le_trans hgood.all (by omega)) (by rw [List.length_map, hlen]; exact hgood.some) (turns_pl hgood hin) (turns_small hgood hin) hgood.j
      obtain ⟨Wb, hWb⟩ : ∃ Wb, Wb = W.putObj yl (.loop { rec .ready none with state := .busy }) := ⟨_, rfl⟩
      rw [← hWb] at hbib htt ⊢
      obtain ⟨R', hR'⟩ : ∃ R', R' = roundPost Tryd.prog yl (YRes w (ClB w J K D (.slice ao ps.length capv) ps N yl W6.heap.size rec) (CxB w J K D (.slice ao ps.length capv) ps N yl W6.heap.size rec) (pre ++ [(o, fl)]) P (Value.slice (some ⟨gs, 0, none⟩) (o.map (Hx.turnOfIdx ps)).length caps).ownBlock W) := ⟨_, rfl⟩
      rw [← hR']
      obtain ⟨sl, hsl⟩ : ∃ sl, sl = (o.map (Hx.turnOfIdx ps)).length := ⟨_, rfl⟩
      rw [← hsl] at htt ⊢
      have HTT := hide htt
      have HBI := hide hbib
      have HWB := hide hWb
      have HR' := hide hR'
      have HSL := hide hsl
      have HHBI := hide hbi
      have HL := hide hl
      have HDF := hide hdf
      have HPP := hide (And.intro hPy hPd)
      have HSV := hide hsv
      have HSVS : Hid (Trns W w.heap.size (.slice (some ⟨gs, 0, none⟩) sl caps) (o.map (Hx.turnOfIdx ps))) := by rw [hsl]; exact hsv
      have HHBE := hide hbe
      have HSB := hide hsb
      have HREC := hide hrec
      have HLENO := hide hlen
      simp only [hrec]
      have hwy : w.heap.size ≤ yl := by rw [unhide HYL]; have := (unhide HB6).size; have := (unhide HBE5).size; omega
      clear htt hbib hWb hR' hsl hbi hl hdf hPy hPd hsv hbe hsb hsvb hpsb hgw ny hrec hin hlen
      have q0 : Wb.cell? ⟨w.heap.size, 0, none⟩ = some (.int .i64 (J : Int)) := blk_cell (unhide HBI).cb 0
      have q1 : Wb.cell? ⟨w.heap.size, 1, none⟩ = some (.int .i64 (K : Int)) := blk_cell (unhide HBI).cb 1
      have q2 : Wb.cell? ⟨w.heap.size, 2, none⟩ = some (.int .i64 (D : Int)) := blk_cell (unhide HBI).cb 2
      have q3 : Wb.cell? ⟨w.heap.size, 3, none⟩ = some (.slice ao ps.length capv) := blk_cell (unhide HBI).cb 3
      have hleft : (N : Int) - (pre.length : Int) - 1 = (N : Int) - ((pre.length : Int) + 1) := by omega
      cases hc : Hx.candF J D ps o with
      | none =>
        have HNO := hide (tt_no hc (unhide HTT) rfl)
        have hbest : Hx.bestF J D ps ((pre ++ [(o, fl)]).map (·.1)) = Hx.bestF J D ps (pre.map (·.1)) := by rw [List.map_append, List.map_cons, List.map_nil, Hx.bestF_snoc, Hx.betterF, hc]
        have HBEST := hide hbest
        clear hc hbest
        by_cases hlast : pre.length + 1 = N
        · have hl0 : ((N : Int) - ((pre.length : Int) + 1) == 0) = true := by rw [beq_iff_eq]; omega
          gi_wp2_with ((try refine ⟨trivial, ?_⟩); (try refine ⟨fun h => (by simp [Fence.wide] at h), ?_⟩); gi_at_call 51; refine (CallsIn.inRound yl (callsIn_wide.2 (unhide HNO))).mono ?_; rintro e W2 ⟨a1, a2, l1, c1, l2, c2, te, rfl, hb2⟩; have HB2 := hide hb2; have hbt := (hb2.block _ (lt_of_block (unhide HBI).bt)).trans (unhide HBI).bt; have hfd := (hb2.block _ (lt_of_block (unhide HBI).fd)).trans (unhide HBI).fd; have hmr := (hb2.block _ (lt_of_block (unhide HBI).mr)).trans (unhide HBI).mr; have hlf := (hb2.block _ (lt_of_block (unhide HBI).lf)).trans (unhide HBI).lf; have m1 : ∀ o, (W2.alloc o).cell? ⟨w.heap.size + 1 + 1 + 1, 0, none⟩ = some (.bool (Hx.lastB pre)) := fun o => blk_cell (bA o hmr) 0; have m2 : ∀ o, (W2.alloc o).frozen? ⟨w.heap.size + 1 + 1 + 1, 0, none⟩ = false := fun o => blk_free (bA o hmr) 0; have l1' : ∀ o, (W2.alloc o).cell? ⟨w.heap.size + 1 + 1 + 1 + 1, 0, none⟩ = some (.int .i64 ((N : Int) - (pre.length : Int))) := fun o => blk_cell (bA o hlf) 0; have l2' : ∀ o, (W2.alloc o).frozen? ⟨w.heap.size + 1 + 1 + 1 + 1, 0, none⟩ = false := fun o => blk_free (bA o hlf) 0; have HBT := hide hbt; have HFD := hide hfd; have HMR := hide hmr; have HLF := hide hlf; clear hb2 hbt hfd hmr hlf)
          have hb2 := unhide HB2
          rw [unhide HWB] at hb2
          have hlen' : ((N : Int) - ((pre ++ [(o, fl)]).length : Int)) = (N : Int) - ((pre.length : Int) + 1) := by rw [List.length_append]; simp
          have hS := Rnd.keep (bA (.cells #[.slice a1 l1 c1, .slice a2 l2 c2, .int .i64 te] 89) (unhide HBT)) (bA (.cells #[.slice a1 l1 c1, .slice a2 l2 c2, .int .i64 te] 89) (unhide HFD)) (bA (.cells #[.slice a1 l1 c1, .slice a2 l2 c2, .int .i64 te] 89) (unhide HMR)) (bA (.cells #[.slice a1 l1 c1, .slice a2 l2 c2, .int .i64 te] 89) (unhide HLF)) fl ((N : Int) - ((pre.length : Int) + 1))
          rw [unhide HR']
          refine round_close (P' := P) (jump := some (.exit 0)) (fun st pe => by rw [unhide HREC]) (unhide HHBI) (unhide HL) (unhide HDF) (unhide HPP).1 (unhide HPP).2 (unhide HHBE) (belA _ hb2) (by rw [unhide HBEST, hlen']; exact hS) (fun x hx => hx) hwy ?hp (fun e => (unhide HHBI).no ((unhide HBEST) ▸ e)) ?hy (Or.inr ⟨rfl, by rw [List.length_append]; exact hlast⟩)
          case hp =>
            intro x hx
            have hsz := hb2.size
            rw [World.putObj_size] at hsz
            exact ⟨Or.inl hx, (unhide HPSEP x hx).1, by have := (unhide HPSEP x hx).2; simp; omega⟩
          case hy =>
            intro o2 bb hb
            rw [unhide HBEST] at hb
            exact rows_keep (unhide HHBI) (unhide HL) (belA _ hb2) hS hb
        · have hl0 : ((N : Int) - ((pre.length : Int) + 1) == 0) = false := by rw [beq_eq_false_iff_ne]; omega
          gi_wp2_with ((try refine ⟨trivial, ?_⟩); (try refine ⟨fun h => (by simp [Fence.wide] at h), ?_⟩); gi_at_call 51; refine (CallsIn.inRound yl (callsIn_wide.2 (unhide HNO))).mono ?_; rintro e W2 ⟨a1, a2, l1, c1, l2, c2, te, rfl, hb2⟩; have HB2 := hide hb2; have hbt := (hb2.block _ (lt_of_block (unhide HBI).bt)).trans (unhide HBI).bt; have hfd := (hb2.block _ (lt_of_block (unhide HBI).fd)).trans (unhide HBI).fd; have hmr := (hb2.block _ (lt_of_block (unhide HBI).mr)).trans (unhide HBI).mr; have hlf := (hb2.block _ (lt_of_block (unhide HBI).lf)).trans (unhide HBI).lf; have m1 : ∀ o, (W2.alloc o).cell? ⟨w.heap.size + 1 + 1 + 1, 0, none⟩ = some (.bool (Hx.lastB pre)) := fun o => blk_cell (bA o hmr) 0; have m2 : ∀ o, (W2.alloc o).frozen? ⟨w.heap.size + 1 + 1 + 1, 0, none⟩ = false := fun o => blk_free (bA o hmr) 0; have l1' : ∀ o, (W2.alloc o).cell? ⟨w.heap.size + 1 + 1 + 1 + 1, 0, none⟩ = some (.int .i64 ((N : Int) - (pre.length : Int))) := fun o => blk_cell (bA o hlf) 0; have l2' : ∀ o, (W2.alloc o).frozen? ⟨w.heap.size + 1 + 1 + 1 + 1, 0, none⟩ = false := fun o => blk_free (bA o hlf) 0; have HBT := hide hbt; have HFD := hide hfd; have HMR := hide hmr; have HLF := hide hlf; clear hb2 hbt hfd hmr hlf)
          have hb2 := unhide HB2
          rw [unhide HWB] at hb2
          have hlen' : ((N : Int) - ((pre ++ [(o, fl)]).length : Int)) = (N : Int) - ((pre.length : Int) + 1) := by rw [List.length_append]; simp
          have hS := Rnd.keep (bA (.cells #[.slice a1 l1 c1, .slice a2 l2 c2, .int .i64 te] 89) (unhide HBT)) (bA (.cells #[.slice a1 l1 c1, .slice a2 l2 c2, .int .i64 te] 89) (unhide HFD)) (bA (.cells #[.slice a1 l1 c1, .slice a2 l2 c2, .int .i64 te] 89) (unhide HMR)) (bA (.cells #[.slice a1 l1 c1, .slice a2 l2 c2, .int .i64 te] 89) (unhide HLF)) fl ((N : Int) - ((pre.length : Int) + 1))
          rw [unhide HR']
          refine round_close (P' := P) (jump := none) (fun st pe => by rw [unhide HREC]) (unhide HHBI) (unhide HL) (unhide HDF) (unhide HPP).1 (unhide HPP).2 (unhide HHBE) (belA _ hb2) (by rw [unhide HBEST, hlen']; exact hS) (fun x hx => hx) hwy ?hp (fun e => (unhide HHBI).no ((unhide HBEST) ▸ e)) ?hy (Or.inl ⟨rfl, by rw [List.length_append]; show pre.length + 1 < N; omega⟩)
          case hp =>
            intro x hx
            have hsz := hb2.size
            rw [World.putObj_size] at hsz
            exact ⟨Or.inl hx, (unhide HPSEP x hx).1, by have := (unhide HPSEP x hx).2; simp; omega⟩
          case hy =>
            intro o2 bb hb
            rw [unhide HBEST] at hb
            exact rows_keep (unhide HHBI) (unhide HL) (belA _ hb2) hS hb
      | some fe =>
        obtain ⟨f, te⟩ := fe
        have HYES := hide (tt_yes hc (unhide HTT))
        cases hbst : Hx.bestF J D ps (pre.map (·.1)) with
        | none =>
          have hbest : Hx.bestF J D ps ((pre ++ [(o, fl)]).map (·.1)) = some ⟨o, f, te⟩ := by rw [List.map_append, List.map_cons, List.map_nil, Hx.bestF_snoc, hbst, Hx.betterF, hc]
          have HBEST := hide hbest
          have HBST := hide hbst
          clear hc hbest hbst
          by_cases hlast : pre.length + 1 = N
          · have hl0 : ((N : Int) - ((pre.length : Int) + 1) == 0) = true := by rw [beq_iff_eq]; omega
            gi_wp2_with ((try refine ⟨trivial, ?_⟩); (try refine ⟨fun h => (by simp [Fence.wide] at h), ?_⟩); gi_at_call 51; refine (CallsIn.inRound yl (callsIn_wide.2 (unhide HYES))).mono ?_; rintro e W2 ⟨gt, rfl, hb2, hrow⟩; have HB2 := hide hb2; have HROW := hide hrow; have hbt := (hb2.block _ (lt_of_block (unhide HBI).bt)).trans (unhide HBI).bt; have hfd := (hb2.block _ (lt_of_block (unhide HBI).fd)).trans (unhide HBI).fd; have hmr := (hb2.block _ (lt_of_block (unhide HBI).mr)).trans (unhide HBI).mr; have hlf := (hb2.block _ (lt_of_block (unhide HBI).lf)).trans (unhide HBI).lf; rw [unhide HBST] at hfd; have f1 : ∀ o, (W2.alloc o).cell? ⟨w.heap.size + 1 + 1, 0, none⟩ = some (.bool false) := fun o => blk_cell (bA o hfd) 0; have f2 : ∀ o, (W2.alloc o).frozen? ⟨w.heap.size + 1 + 1, 0, none⟩ = false := fun o => blk_free (bA o hfd) 0; have b0 : ∀ o, (W2.alloc o).cell? ⟨w.heap.size + 1, 0, none⟩ = some ov := fun o => blk_cell (bA o hbt) 0; have b1 : ∀ o, (W2.alloc o).cell? ⟨w.heap.size + 1, 1, none⟩ = some tv := fun o => blk_cell (bA o hbt) 1; have b2 : ∀ o, (W2.alloc o).cell? ⟨w.heap.size + 1, 2, none⟩ = some (.int .i64 en) := fun o => blk_cell (bA o hbt) 2; have b3 : ∀ o k, (W2.alloc o).frozen? ⟨w.heap.size + 1, k, none⟩ = false := fun o k => blk_free (bA o hbt) k; have m1 : ∀ o, (W2.alloc o).cell? ⟨w.heap.size + 1 + 1 + 1, 0, none⟩ = some (.bool (Hx.lastB pre)) := fun o => blk_cell (bA o hmr) 0; have m2 : ∀ o, (W2.alloc o).frozen? ⟨w.heap.size + 1 + 1 + 1, 0, none⟩ = false := fun o => blk_free (bA o hmr) 0; have l1' : ∀ o, (W2.alloc o).cell? ⟨w.heap.size + 1 + 1 + 1 + 1, 0, none⟩ = some (.int .i64 ((N : Int) - (pre.length : Int))) := fun o => blk_cell (bA o hlf) 0; have l2' : ∀ o, (W2.alloc o).frozen? ⟨w.heap.size + 1 + 1 + 1 + 1, 0, none⟩ = false := fun o => blk_free (bA o hlf) 0; have HBT := hide hbt; have HFD := hide hfd; have HMR := hide hmr; have HLF := hide hlf; clear hb2 hbt hfd hmr hlf hrow)
            have hb2 := unhide HB2
            rw [unhide HWB] at hb2
            have hlen' : ((N : Int) - ((pre ++ [(o, fl)]).length : Int)) = (N : Int) - ((pre.length : Int) + 1) := by rw [List.length_append]; simp
            have hS := Rnd.anew (bA (.cells #[.slice (some ⟨gs, 0, none⟩) sl caps, .slice (some ⟨gt, 0, none⟩) o.length o.length, .int .i64 te] 89) (unhide HBT)) (bA (.cells #[.slice (some ⟨gs, 0, none⟩) sl caps, .slice (some ⟨gt, 0, none⟩) o.length o.length, .int .i64 te] 89) (unhide HFD)) (bA (.cells #[.slice (some ⟨gs, 0, none⟩) sl caps, .slice (some ⟨gt, 0, none⟩) o.length o.length, .int .i64 te] 89) (unhide HMR)) (bA (.cells #[.slice (some ⟨gs, 0, none⟩) sl caps, .slice (some ⟨gt, 0, none⟩) o.length o.length, .int .i64 te] 89) (unhide HLF)) (.slice (some ⟨gs, 0, none⟩) sl caps) (.slice (some ⟨gt, 0, none⟩) o.length o.length) te fl ((N : Int) - ((pre.length : Int) + 1))
            rw [unhide HR']
            refine round_close (P' := fun x => P x ∨ x = gs ∨ x = gt) (jump := some (.exit 0)) (fun st pe => by rw [unhide HREC]) (unhide HHBI) (unhide HL) (unhide HDF) (unhide HPP).1 (unhide HPP).2 (unhide HHBE) (belA _ hb2) (by rw [unhide HBEST, hlen']; exact hS) (fun x hx => Or.inl hx) hwy ?hp (fun e => by rw [unhide HBEST] at e; cases e) ?hy (Or.inr ⟨rfl, by rw [List.length_append]; exact hlast⟩)
            case hp =>
              have hrow := (unhide HROW).lt gt rfl
              rw [unhide HWB, World.putObj_size] at hrow
              intro x hx
              have hsz := hb2.size
              rw [World.putObj_size] at hsz
              have hws := (unhide HHBE).size
              rcases hx with hx | rfl | rfl
              · exact ⟨Or.inl hx, (unhide HPSEP x hx).1, by have := (unhide HPSEP x hx).2; simp; omega⟩
              · exact ⟨Or.inr (Or.inl rfl), hgs1, by simp; omega⟩
              · exact ⟨Or.inr (Or.inr hrow.1), by omega, by simp; omega⟩
            case hy =>
              intro o2 bb hb
              rw [unhide HBEST] at hb
              cases hb
              have hrow := unhide HROW
              rw [unhide HWB] at hrow
              obtain ⟨r1, r2⟩ := rows_new (o2 := o2) (sv := .slice (some ⟨gs, 0, none⟩) sl caps) (unhide HHBI) (unhide HL) (unhide HPP).1 hb2 hS (unhide HSVS) (fun x hx => unhide HSB x hx) hrow
              refine ⟨rfl, r1, r2, fun x hx => ?_, fun x hx => ?_⟩
              · cases hx; exact Or.inr (Or.inl rfl)
              · cases hx; exact Or.inr (Or.inr rfl)
          · have hl0 : ((N : Int) - ((pre.length : Int) + 1) == 0) = false := by rw [beq_eq_false_iff_ne]; omega
            gi_wp2_with ((try refine ⟨trivial, ?_⟩); (try refine ⟨fun h => (by simp [Fence.wide] at h), ?_⟩); gi_at_call 51; refine (CallsIn.inRound yl (callsIn_wide.2 (unhide HYES))).mono ?_; rintro e W2 ⟨gt, rfl, hb2, hrow⟩; have HB2 := hide hb2; have HROW := hide hrow; have hbt := (hb2.block _ (lt_of_block (unhide HBI).bt)).trans (unhide HBI).bt; have hfd := (hb2.block _ (lt_of_block (unhide HBI).fd)).trans (unhide HBI).fd; have hmr := (hb2.block _ (lt_of_block (unhide HBI).mr)).trans (unhide HBI).mr; have hlf := (hb2.block _ (lt_of_block (unhide HBI).lf)).trans (unhide HBI).lf; rw [unhide HBST] at hfd; have f1 : ∀ o, (W2.alloc o).cell? ⟨w.heap.size + 1 + 1, 0, none⟩ = some (.bool false) := fun o => blk_cell (bA o hfd) 0; have f2 : ∀ o, (W2.alloc o).frozen? ⟨w.heap.size + 1 + 1, 0, none⟩ = false := fun o => blk_free (bA o hfd) 0; have b0 : ∀ o, (W2.alloc o).cell? ⟨w.heap.size + 1, 0, none⟩ = some ov := fun o => blk_cell (bA o hbt) 0; have b1 : ∀ o, (W2.alloc o).cell? ⟨w.heap.size + 1, 1, none⟩ = some tv := fun o => blk_cell (bA o hbt) 1; have b2 : ∀ o, (W2.alloc o).cell? ⟨w.heap.size + 1, 2, none⟩ = some (.int .i64 en) := fun o => blk_cell (bA o hbt) 2; have b3 : ∀ o k, (W2.alloc o).frozen? ⟨w.heap.size + 1, k, none⟩ = false := fun o k => blk_free (bA o hbt) k; have m1 : ∀ o, (W2.alloc o).cell? ⟨w.heap.size + 1 + 1 + 1, 0, none⟩ = some (.bool (Hx.lastB pre)) := fun o => blk_cell (bA o hmr) 0; have m2 : ∀ o, (W2.alloc o).frozen? ⟨w.heap.size + 1 + 1 + 1, 0, none⟩ = false := fun o => blk_free (bA o hmr) 0; have l1' : ∀ o, (W2.alloc o).cell? ⟨w.heap.size + 1 + 1 + 1 + 1, 0, none⟩ = some (.int .i64 ((N : Int) - (pre.length : Int))) := fun o => blk_cell (bA o hlf) 0; have l2' : ∀ o, (W2.alloc o).frozen? ⟨w.heap.size + 1 + 1 + 1 + 1, 0, none⟩ = false := fun o => blk_free (bA o hlf) 0; have HBT := hide hbt; have HFD := hide hfd; have HMR := hide hmr; have HLF := hide hlf; clear hb2 hbt hfd hmr hlf hrow)
            have hb2 := unhide HB2
            rw [unhide HWB] at hb2
            have hlen' : ((N : Int) - ((pre ++ [(o, fl)]).length : Int)) = (N : Int) - ((pre.length : Int) + 1) := by rw [List.length_append]; simp
            have hS := Rnd.anew (bA (.cells #[.slice (some ⟨gs, 0, none⟩) sl caps, .slice (some ⟨gt, 0, none⟩) o.length o.length, .int .i64 te] 89) (unhide HBT)) (bA (.cells #[.slice (some ⟨gs, 0, none⟩) sl caps, .slice (some ⟨gt, 0, none⟩) o.length o.length, .int .i64 te] 89) (unhide HFD)) (bA (.cells #[.slice (some ⟨gs, 0, none⟩) sl caps, .slice (some ⟨gt, 0, none⟩) o.length o.length, .int .i64 te] 89) (unhide HMR)) (bA (.cells #[.slice (some ⟨gs, 0, none⟩) sl caps, .slice (some ⟨gt, 0, none⟩) o.length o.length, .int .i64 te] 89) (unhide HLF)) (.slice (some ⟨gs, 0, none⟩) sl caps) (.slice (some ⟨gt, 0, none⟩) o.length o.length) te fl ((N : Int) - ((pre.length : Int) + 1))
            rw [unhide HR']
            refine round_close (P' := fun x => P x ∨ x = gs ∨ x = gt) (jump := none) (fun st pe => by rw [unhide HREC]) (unhide HHBI) (unhide HL) (unhide HDF) (unhide HPP).1 (unhide HPP).2 (unhide HHBE) (belA _ hb2) (by rw [unhide HBEST, hlen']; exact hS) (fun x hx => Or.inl hx) hwy ?hp (fun e => by rw [unhide HBEST] at e; cases e) ?hy (Or.inl ⟨rfl, by rw [List.length_append]; show pre.length + 1 < N; omega⟩)
            case hp =>
              have hrow := (unhide HROW).lt gt rfl
              rw [unhide HWB, World.putObj_size] at hrow
              intro x hx
              have hsz := hb2.size
              rw [World.putObj_size] at hsz
              have hws := (unhide HHBE).size
              rcases hx with hx | rfl | rfl
              · exact ⟨Or.inl hx, (unhide HPSEP x hx).1, by have := (unhide HPSEP x hx).2; simp; omega⟩
              · exact ⟨Or.inr (Or.inl rfl), hgs1, by simp; omega⟩
              · exact ⟨Or.inr (Or.inr hrow.1), by omega, by simp; omega⟩
            case hy =>
              intro o2 bb hb
              rw [unhide HBEST] at hb
              cases hb
              have hrow := unhide HROW
              rw [unhide HWB] at hrow
              obtain ⟨r1, r2⟩ := rows_new (o2 := o2) (sv := .slice (some ⟨gs, 0, none⟩) sl caps) (unhide HHBI) (unhide HL) (unhide HPP).1 hb2 hS (unhide HSVS) (fun x hx => unhide HSB x hx) hrow
              refine ⟨rfl, r1, r2, fun x hx => ?_, fun x hx => ?_⟩
              · cases hx; exact Or.inr (Or.inl rfl)
              · cases hx; exact Or.inr (Or.inr rfl)
        | some bb =>
          have hen : en = bb.e := ((unhide HHBI).yes bb hbst).1
          by_cases hlt : te < en
          · have hbest : Hx.bestF J D ps ((pre ++ [(o, fl)]).map (·.1)) = some ⟨o, f, te⟩ := by rw [List.map_append, List.map_cons, List.map_nil, Hx.bestF_snoc, hbst, Hx.betterF, hc]; simp only; rw [if_pos (by rw [← hen]; exact hlt)]
            have HBEST := hide hbest
            have HBST := hide hbst
            clear hc hen hbest hbst
            by_cases hlast : pre.length + 1 = N
            · have hl0 : ((N : Int) - ((pre.length : Int) + 1) == 0) = true := by rw [beq_iff_eq]; omega
              gi_wp2_with ((try refine ⟨trivial, ?_⟩); (try refine ⟨fun h => (by simp [Fence.wide] at h), ?_⟩); gi_at_call 51; refine (CallsIn.inRound yl (callsIn_wide.2 (unhide HYES))).mono ?_; rintro e W2 ⟨gt, rfl, hb2, hrow⟩; have HB2 := hide hb2; have HROW := hide hrow; have hbt := (hb2.block _ (lt_of_block (unhide HBI).bt)).trans (unhide HBI).bt; have hfd := (hb2.block _ (lt_of_block (unhide HBI).fd)).trans (unhide HBI).fd; have hmr := (hb2.block _ (lt_of_block (unhide HBI).mr)).trans (unhide HBI).mr; have hlf := (hb2.block _ (lt_of_block (unhide HBI).lf)).trans (unhide HBI).lf; rw [unhide HBST] at hfd; have f1 : ∀ o, (W2.alloc o).cell? ⟨w.heap.size + 1 + 1, 0, none⟩ = some (.bool true) := fun o => blk_cell (bA o hfd) 0; have f2 : ∀ o, (W2.alloc o).frozen? ⟨w.heap.size + 1 + 1, 0, none⟩ = false := fun o => blk_free (bA o hfd) 0; have b0 : ∀ o, (W2.alloc o).cell? ⟨w.heap.size + 1, 0, none⟩ = some ov := fun o => blk_cell (bA o hbt) 0; have b1 : ∀ o, (W2.alloc o).cell? ⟨w.heap.size + 1, 1, none⟩ = some tv := fun o => blk_cell (bA o hbt) 1; have b2 : ∀ o, (W2.alloc o).cell? ⟨w.heap.size + 1, 2, none⟩ = some (.int .i64 en) := fun o => blk_cell (bA o hbt) 2; have b3 : ∀ o k, (W2.alloc o).frozen? ⟨w.heap.size + 1, k, none⟩ = false := fun o k => blk_free (bA o hbt) k; have m1 : ∀ o, (W2.alloc o).cell? ⟨w.heap.size + 1 + 1 + 1, 0, none⟩ = some (.bool (Hx.lastB pre)) := fun o => blk_cell (bA o hmr) 0; have m2 : ∀ o, (W2.alloc o).frozen? ⟨w.heap.size + 1 + 1 + 1, 0, none⟩ = false := fun o => blk_free (bA o hmr) 0; have l1' : ∀ o, (W2.alloc o).cell? ⟨w.heap.size + 1 + 1 + 1 + 1, 0, none⟩ = some (.int .i64 ((N : Int) - (pre.length : Int))) := fun o => blk_cell (bA o hlf) 0; have l2' : ∀ o, (W2.alloc o).frozen? ⟨w.heap.size + 1 + 1 + 1 + 1, 0, none⟩ = false := fun o => blk_free (bA o hlf) 0; have HBT := hide hbt; have HFD := hide hfd; have HMR := hide hmr; have HLF := hide hlf; clear hb2 hbt hfd hmr hlf hrow)
              have hb2 := unhide HB2
              rw [unhide HWB] at hb2
              have hlen' : ((N : Int) - ((pre ++ [(o, fl)]).length : Int)) = (N : Int) - ((pre.length : Int) + 1) := by rw [List.length_append]; simp
              have hS := Rnd.anew (bA (.cells #[.slice (some ⟨gs, 0, none⟩) sl caps, .slice (some ⟨gt, 0, none⟩) o.length o.length, .int .i64 te] 89) (unhide HBT)) (bA (.cells #[.slice (some ⟨gs, 0, none⟩) sl caps, .slice (some ⟨gt, 0, none⟩) o.length o.length, .int .i64 te] 89) (unhide HFD)) (bA (.cells #[.slice (some ⟨gs, 0, none⟩) sl caps, .slice (some ⟨gt, 0, none⟩) o.length o.length, .int .i64 te] 89) (unhide HMR)) (bA (.cells #[.slice (some ⟨gs, 0, none⟩) sl caps, .slice (some ⟨gt, 0, none⟩) o.length o.length, .int .i64 te] 89) (unhide HLF)) (.slice (some ⟨gs, 0, none⟩) sl caps) (.slice (some ⟨gt, 0, none⟩) o.length o.length) te fl ((N : Int) - ((pre.length : Int) + 1))
              rw [unhide HR']
              refine round_close (P' := fun x => P x ∨ x = gs ∨ x = gt) (jump := some (.exit 0)) (fun st pe => by rw [unhide HREC]) (unhide HHBI) (unhide HL) (unhide HDF) (unhide HPP).1 (unhide HPP).2 (unhide HHBE) (belA _ hb2) (by rw [unhide HBEST, hlen']; exact hS) (fun x hx => Or.inl hx) hwy ?hp (fun e => by rw [unhide HBEST] at e; cases e) ?hy (Or.inr ⟨rfl, by rw [List.length_append]; exact hlast⟩)
              case hp =>
                have hrow := (unhide HROW).lt gt rfl
                rw [unhide HWB, World.putObj_size] at hrow
                intro x hx
                have hsz := hb2.size
                rw [World.putObj_size] at hsz
                have hws := (unhide HHBE).size
                rcases hx with hx | rfl | rfl
                · exact ⟨Or.inl hx, (unhide HPSEP x hx).1, by have := (unhide HPSEP x hx).2; simp; omega⟩
                · exact ⟨Or.inr (Or.inl rfl), hgs1, by simp; omega⟩
                · exact ⟨Or.inr (Or.inr hrow.1), by omega, by simp; omega⟩
              case hy =>
                intro o2 bb hb
                rw [unhide HBEST] at hb
                cases hb
                have hrow := unhide HROW
                rw [unhide HWB] at hrow
                obtain ⟨r1, r2⟩ := rows_new (o2 := o2) (sv := .slice (some ⟨gs, 0, none⟩) sl caps) (unhide HHBI) (unhide HL) (unhide HPP).1 hb2 hS (unhide HSVS) (fun x hx => unhide HSB x hx) hrow
                refine ⟨rfl, r1, r2, fun x hx => ?_, fun x hx => ?_⟩
                · cases hx; exact Or.inr (Or.inl rfl)
                · cases hx; exact Or.inr (Or.inr rfl)
            · have hl0 : ((N : Int) - ((pre.length : Int) + 1) == 0) = false := by rw [beq_eq_false_iff_ne]; omega
              gi_wp2_with ((try refine ⟨trivial, ?_⟩); (try refine ⟨fun h => (by simp [Fence.wide] at h), ?_⟩); gi_at_call 51; refine (CallsIn.inRound yl (callsIn_wide.2 (unhide HYES))).mono ?_; rintro e W2 ⟨gt, rfl, hb2, hrow⟩; have HB2 := hide hb2; have HROW := hide hrow; have hbt := (hb2.block _ (lt_of_block (unhide HBI).bt)).trans (unhide HBI).bt; have hfd := (hb2.block _ (lt_of_block (unhide HBI).fd)).trans (unhide HBI).fd; have hmr := (hb2.block _ (lt_of_block (unhide HBI).mr)).trans (unhide HBI).mr; have hlf := (hb2.block _ (lt_of_block (unhide HBI).lf)).trans (unhide HBI).lf; rw [unhide HBST] at hfd; have f1 : ∀ o, (W2.alloc o).cell? ⟨w.heap.size + 1 + 1, 0, none⟩ = some (.bool true) := fun o => blk_cell (bA o hfd) 0; have f2 : ∀ o, (W2.alloc o).frozen? ⟨w.heap.size + 1 + 1, 0, none⟩ = false := fun o => blk_free (bA o hfd) 0; have b0 : ∀ o, (W2.alloc o).cell? ⟨w.heap.size + 1, 0, none⟩ = some ov := fun o => blk_cell (bA o hbt) 0; have b1 : ∀ o, (W2.alloc o).cell? ⟨w.heap.size + 1, 1, none⟩ = some tv := fun o => blk_cell (bA o hbt) 1; have b2 : ∀ o, (W2.alloc o).cell? ⟨w.heap.size + 1, 2, none⟩ = some (.int .i64 en) := fun o => blk_cell (bA o hbt) 2; have b3 : ∀ o k, (W2.alloc o).frozen? ⟨w.heap.size + 1, k, none⟩ = false := fun o k => blk_free (bA o hbt) k; have m1 : ∀ o, (W2.alloc o).cell? ⟨w.heap.size + 1 + 1 + 1, 0, none⟩ = some (.bool (Hx.lastB pre)) := fun o => blk_cell (bA o hmr) 0; have m2 : ∀ o, (W2.alloc o).frozen? ⟨w.heap.size + 1 + 1 + 1, 0, none⟩ = false := fun o => blk_free (bA o hmr) 0; have l1' : ∀ o, (W2.alloc o).cell? ⟨w.heap.size + 1 + 1 + 1 + 1, 0, none⟩ = some (.int .i64 ((N : Int) - (pre.length : Int))) := fun o => blk_cell (bA o hlf) 0; have l2' : ∀ o, (W2.alloc o).frozen? ⟨w.heap.size + 1 + 1 + 1 + 1, 0, none⟩ = false := fun o => blk_free (bA o hlf) 0; have HBT := hide hbt; have HFD := hide hfd; have HMR := hide hmr; have HLF := hide hlf; clear hb2 hbt hfd hmr hlf hrow)
              have hb2 := unhide HB2
              rw [unhide HWB] at hb2
              have hlen' : ((N : Int) - ((pre ++ [(o, fl)]).length : Int)) = (N : Int) - ((pre.length : Int) + 1) := by rw [List.length_append]; simp
              have hS := Rnd.anew (bA (.cells #[.slice (some ⟨gs, 0, none⟩) sl caps, .slice (some ⟨gt, 0, none⟩) o.length o.length, .int .i64 te] 89) (unhide HBT)) (bA (.cells #[.slice (some ⟨gs, 0, none⟩) sl caps, .slice (some ⟨gt, 0, none⟩) o.length o.length, .int .i64 te] 89) (unhide HFD)) (bA (.cells #[.slice (some ⟨gs, 0, none⟩) sl caps, .slice (some ⟨gt, 0, none⟩) o.length o.length, .int .i64 te] 89) (unhide HMR)) (bA (.cells #[.slice (some ⟨gs, 0, none⟩) sl caps, .slice (some ⟨gt, 0, none⟩) o.length o.length, .int .i64 te] 89) (unhide HLF)) (.slice (some ⟨gs, 0, none⟩) sl caps) (.slice (some ⟨gt, 0, none⟩) o.length o.length) te fl ((N : Int) - ((pre.length : Int) + 1))
              rw [unhide HR']
              refine round_close (P' := fun x => P x ∨ x = gs ∨ x = gt) (jump := none) (fun st pe => by rw [unhide HREC]) (unhide HHBI) (unhide HL) (unhide HDF) (unhide HPP).1 (unhide HPP).2 (unhide HHBE) (belA _ hb2) (by rw [unhide HBEST, hlen']; exact hS) (fun x hx => Or.inl hx) hwy ?hp (fun e => by rw [unhide HBEST] at e; cases e) ?hy (Or.inl ⟨rfl, by rw [List.length_append]; show pre.length + 1 < N; omega⟩)
              case hp =>
                have hrow := (unhide HROW).lt gt rfl
                rw [unhide HWB, World.putObj_size] at hrow
                intro x hx
                have hsz := hb2.size
                rw [World.putObj_size] at hsz
                have hws := (unhide HHBE).size
                rcases hx with hx | rfl | rfl
                · exact ⟨Or.inl hx, (unhide HPSEP x hx).1, by have := (unhide HPSEP x hx).2; simp; omega⟩
                · exact ⟨Or.inr (Or.inl rfl), hgs1, by simp; omega⟩
                · exact ⟨Or.inr (Or.inr hrow.1), by omega, by simp; omega⟩
              case hy =>
                intro o2 bb hb
                rw [unhide HBEST] at hb
                cases hb
                have hrow := unhide HROW
                rw [unhide HWB] at hrow
                obtain ⟨r1, r2⟩ := rows_new (o2 := o2) (sv := .slice (some ⟨gs, 0, none⟩) sl caps) (unhide HHBI) (unhide HL) (unhide HPP).1 hb2 hS (unhide HSVS) (fun x hx => unhide HSB x hx) hrow
                refine ⟨rfl, r1, r2, fun x hx => ?_, fun x hx => ?_⟩
                · cases hx; exact Or.inr (Or.inl rfl)
                · cases hx; exact Or.inr (Or.inr rfl)
          · have hbest : Hx.bestF J D ps ((pre ++ [(o, fl)]).map (·.1)) = Hx.bestF J D ps (pre.map (·.1)) := by rw [List.map_append, List.map_cons, List.map_nil, Hx.bestF_snoc, hbst, Hx.betterF, hc]; simp only; rw [if_neg (by rw [← hen]; exact hlt)]
            have hlt' : decide (te < en) = false := by simpa using hlt
            have HBEST := hide hbest
            have HBST := hide hbst
            clear hc hen hbest hbst
            by_cases hlast : pre.length + 1 = N
            · have hl0 : ((N : Int) - ((pre.length : Int) + 1) == 0) = true := by rw [beq_iff_eq]; omega
              gi_wp2_with ((try refine ⟨trivial, ?_⟩); (try refine ⟨fun h => (by simp [Fence.wide] at h), ?_⟩); gi_at_call 51; refine (CallsIn.inRound yl (callsIn_wide.2 (unhide HYES))).mono ?_; rintro e W2 ⟨gt, rfl, hb2, hrow⟩; have HB2 := hide hb2; have HROW := hide hrow; have hbt := (hb2.block _ (lt_of_block (unhide HBI).bt)).trans (unhide HBI).bt; have hfd := (hb2.block _ (lt_of_block (unhide HBI).fd)).trans (unhide HBI).fd; have hmr := (hb2.block _ (lt_of_block (unhide HBI).mr)).trans (unhide HBI).mr; have hlf := (hb2.block _ (lt_of_block (unhide HBI).lf)).trans (unhide HBI).lf; rw [unhide HBST] at hfd; have f1 : ∀ o, (W2.alloc o).cell? ⟨w.heap.size + 1 + 1, 0, none⟩ = some (.bool true) := fun o => blk_cell (bA o hfd) 0; have f2 : ∀ o, (W2.alloc o).frozen? ⟨w.heap.size + 1 + 1, 0, none⟩ = false := fun o => blk_free (bA o hfd) 0; have b0 : ∀ o, (W2.alloc o).cell? ⟨w.heap.size + 1, 0, none⟩ = some ov := fun o => blk_cell (bA o hbt) 0; have b1 : ∀ o, (W2.alloc o).cell? ⟨w.heap.size + 1, 1, none⟩ = some tv := fun o => blk_cell (bA o hbt) 1; have b2 : ∀ o, (W2.alloc o).cell? ⟨w.heap.size + 1, 2, none⟩ = some (.int .i64 en) := fun o => blk_cell (bA o hbt) 2; have b3 : ∀ o k, (W2.alloc o).frozen? ⟨w.heap.size + 1, k, none⟩ = false := fun o k => blk_free (bA o hbt) k; have m1 : ∀ o, (W2.alloc o).cell? ⟨w.heap.size + 1 + 1 + 1, 0, none⟩ = some (.bool (Hx.lastB pre)) := fun o => blk_cell (bA o hmr) 0; have m2 : ∀ o, (W2.alloc o).frozen? ⟨w.heap.size + 1 + 1 + 1, 0, none⟩ = false := fun o => blk_free (bA o hmr) 0; have l1' : ∀ o, (W2.alloc o).cell? ⟨w.heap.size + 1 + 1 + 1 + 1, 0, none⟩ = some (.int .i64 ((N : Int) - (pre.length : Int))) := fun o => blk_cell (bA o hlf) 0; have l2' : ∀ o, (W2.alloc o).frozen? ⟨w.heap.size + 1 + 1 + 1 + 1, 0, none⟩ = false := fun o => blk_free (bA o hlf) 0; have HBT := hide hbt; have HFD := hide hfd; have HMR := hide hmr; have HLF := hide hlf; clear hb2 hbt hfd hmr hlf hrow)
              have hb2 := unhide HB2
              rw [unhide HWB] at hb2
              have hlen' : ((N : Int) - ((pre ++ [(o, fl)]).length : Int)) = (N : Int) - ((pre.length : Int) + 1) := by rw [List.length_append]; simp
              have hS := Rnd.keep (bA (.cells #[.slice (some ⟨gs, 0, none⟩) sl caps, .slice (some ⟨gt, 0, none⟩) o.length o.length, .int .i64 te] 89) (unhide HBT)) (bA (.cells #[.slice (some ⟨gs, 0, none⟩) sl caps, .slice (some ⟨gt, 0, none⟩) o.length o.length, .int .i64 te] 89) (unhide HFD)) (bA (.cells #[.slice (some ⟨gs, 0, none⟩) sl caps, .slice (some ⟨gt, 0, none⟩) o.length o.length, .int .i64 te] 89) (unhide HMR)) (bA (.cells #[.slice (some ⟨gs, 0, none⟩) sl caps, .slice (some ⟨gt, 0, none⟩) o.length o.length, .int .i64 te] 89) (unhide HLF)) fl ((N : Int) - ((pre.length : Int) + 1))
              rw [unhide HR']
              refine round_close (P' := P) (jump := some (.exit 0)) (fun st pe => by rw [unhide HREC]) (unhide HHBI) (unhide HL) (unhide HDF) (unhide HPP).1 (unhide HPP).2 (unhide HHBE) (belA _ hb2) (by rw [unhide HBEST, unhide HBST, hlen']; exact hS) (fun x hx => hx) hwy ?hp (fun e => (unhide HHBI).no ((unhide HBEST) ▸ e)) ?hy (Or.inr ⟨rfl, by rw [List.length_append]; exact hlast⟩)
              case hp =>
                intro x hx
                have hsz := hb2.size
                rw [World.putObj_size] at hsz
                exact ⟨Or.inl hx, (unhide HPSEP x hx).1, by have := (unhide HPSEP x hx).2; simp; omega⟩
              case hy =>
                intro o2 bb hb
                rw [unhide HBEST] at hb
                exact rows_keep (unhide HHBI) (unhide HL) (belA _ hb2) hS hb
            · have hl0 : ((N : Int) - ((pre.length : Int) + 1) == 0) = false := by rw [beq_eq_false_iff_ne]; omega
              gi_wp2_with ((try refine ⟨trivial, ?_⟩); (try refine ⟨fun h => (by simp [Fence.wide] at h), ?_⟩); gi_at_call 51; refine (CallsIn.inRound yl (callsIn_wide.2 (unhide HYES))).mono ?_; rintro e W2 ⟨gt, rfl, hb2, hrow⟩; have HB2 := hide hb2; have HROW := hide hrow; have hbt := (hb2.block _ (lt_of_block (unhide HBI).bt)).trans (unhide HBI).bt; have hfd := (hb2.block _ (lt_of_block (unhide HBI).fd)).trans (unhide HBI).fd; have hmr := (hb2.block _ (lt_of_block (unhide HBI).mr)).trans (unhide HBI).mr; have hlf := (hb2.block _ (lt_of_block (unhide HBI).lf)).trans (unhide HBI).lf; rw [unhide HBST] at hfd; have f1 : ∀ o, (W2.alloc o).cell? ⟨w.heap.size + 1 + 1, 0, none⟩ = some (.bool true) := fun o => blk_cell (bA o hfd) 0; have f2 : ∀ o, (W2.alloc o).frozen? ⟨w.heap.size + 1 + 1, 0, none⟩ = false := fun o => blk_free (bA o hfd) 0; have b0 : ∀ o, (W2.alloc o).cell? ⟨w.heap.size + 1, 0, none⟩ = some ov := fun o => blk_cell (bA o hbt) 0; have b1 : ∀ o, (W2.alloc o).cell? ⟨w.heap.size + 1, 1, none⟩ = some tv := fun o => blk_cell (bA o hbt) 1; have b2 : ∀ o, (W2.alloc o).cell? ⟨w.heap.size + 1, 2, none⟩ = some (.int .i64 en) := fun o => blk_cell (bA o hbt) 2; have b3 : ∀ o k, (W2.alloc o).frozen? ⟨w.heap.size + 1, k, none⟩ = false := fun o k => blk_free (bA o hbt) k; have m1 : ∀ o, (W2.alloc o).cell? ⟨w.heap.size + 1 + 1 + 1, 0, none⟩ = some (.bool (Hx.lastB pre)) := fun o => blk_cell (bA o hmr) 0; have m2 : ∀ o, (W2.alloc o).frozen? ⟨w.heap.size + 1 + 1 + 1, 0, none⟩ = false := fun o => blk_free (bA o hmr) 0; have l1' : ∀ o, (W2.alloc o).cell? ⟨w.heap.size + 1 + 1 + 1 + 1, 0, none⟩ = some (.int .i64 ((N : Int) - (pre.length : Int))) := fun o => blk_cell (bA o hlf) 0; have l2' : ∀ o, (W2.alloc o).frozen? ⟨w.heap.size + 1 + 1 + 1 + 1, 0, none⟩ = false := fun o => blk_free (bA o hlf) 0; have HBT := hide hbt; have HFD := hide hfd; have HMR := hide hmr; have HLF := hide hlf; clear hb2 hbt hfd hmr hlf hrow)
              have hb2 := unhide HB2
              rw [unhide HWB] at hb2
              have hlen' : ((N : Int) - ((pre ++ [(o, fl)]).length : Int)) = (N : Int) - ((pre.length : Int) + 1) := by rw [List.length_append]; simp
              have hS := Rnd.keep (bA (.cells #[.slice (some ⟨gs, 0, none⟩) sl caps, .slice (some ⟨gt, 0, none⟩) o.length o.length, .int .i64 te] 89) (unhide HBT)) (bA (.cells #[.slice (some ⟨gs, 0, none⟩) sl caps, .slice (some ⟨gt, 0, none⟩) o.length o.length, .int .i64 te] 89) (unhide HFD)) (bA (.cells #[.slice (some ⟨gs, 0, none⟩) sl caps, .slice (some ⟨gt, 0, none⟩) o.length o.length, .int .i64 te] 89) (unhide HMR)) (bA (.cells #[.slice (some ⟨gs, 0, none⟩) sl caps, .slice (some ⟨gt, 0, none⟩) o.length o.length, .int .i64 te] 89) (unhide HLF)) fl ((N : Int) - ((pre.length : Int) + 1))
              rw [unhide HR']
              refine round_close (P' := P) (jump := none) (fun st pe => by rw [unhide HREC]) (unhide HHBI) (unhide HL) (unhide HDF) (unhide HPP).1 (unhide HPP).2 (unhide HHBE) (belA _ hb2) (by rw [unhide HBEST, unhide HBST, hlen']; exact hS) (fun x hx => hx) hwy ?hp (fun e => (unhide HHBI).no ((unhide HBEST) ▸ e)) ?hy (Or.inl ⟨rfl, by rw [List.length_append]; show pre.length + 1 < N; omega⟩)
              case hp =>
                intro x hx
                have hsz := hb2.size
                rw [World.putObj_size] at hsz
                exact ⟨Or.inl hx, (unhide HPSEP x hx).1, by have := (unhide HPSEP x hx).2; simp; omega⟩
              case hy =>
                intro o2 bb hb
                rw [unhide HBEST] at hb
                exact rows_keep (unhide HHBI) (unhide HL) (belA _ hb2) hS hb
  have HHY := hide hY
  have HGOOD := hide hgood
  have HREC := hide hrec
  obtain ⟨W7, hW7⟩ : ∃ W7, W7 = (W6.alloc (.deferred (some []))).alloc (.loop (rec .ready none)) := ⟨_, rfl⟩
  have HB7 : Hid (Below W6.heap.size W6 W7) := by rw [hW7]; exact belA _ (belA _ (Below.refl _ _))
  have hyl := unhide HYL
  have HY7 : Hid (W7.heap[yl]? = some (.loop (rec .ready none))) := by
    show _ = _
    rw [hW7, hyl]
    have := World.alloc_heap_new (W6.alloc (.deferred (some []))) (.loop (rec .ready none))
    rwa [World.size_alloc] at this
  have HD7 : Hid (W7.heap[W6.heap.size]? = some (.deferred (some []))) := by
    show _ = _
    rw [hW7]
    exact bA _ (World.alloc_heap_new W6 _)
  have hs7 : W7.heap.size = W6.heap.size + 2 := by rw [hW7]; simp
  have hs6 := (unhide HB6).size
  have hs5 := unhide HSZ5
  have HIT7 : Hid (It w ⟨J, K, D, .slice ao ps.length capv, ps, b⟩ W7 [] 0 (fun _ => 0) 0 (.slice none 0 0) (fun x => (w.heap.size ≤ x ∧ x < w.heap.size + 5) ∨ (x = W6.heap.size ∨ x = yl))) := (unhide HIT).addP (unhide HB7) (fun x hx => by rcases hx with rfl | rfl <;> omega)
  have k7 : ∀ {x : Nat} {ob : Obj}, W5.heap[x]? = some ob → W7.heap[x]? = some ob := fun hx => by
    have h6 := ((unhide HB6).block _ (lt_of_block hx)).trans hx
    exact ((unhide HB7).block _ (lt_of_block h6)).trans h6
  have HCL7 : Hid (ClB w J K D (.slice ao ps.length capv) ps N yl W6.heap.size rec [] (fun x => (w.heap.size ≤ x ∧ x < w.heap.size + 5) ∨ (x = W6.heap.size ∨ x = yl)) W7) := by
    refine ⟨⟨.slice none 0 0, .slice none 0 0, 0, ⟨Or.inl ⟨by omega, by omega⟩, Or.inl ⟨by omega, by omega⟩, Or.inl ⟨by omega, by omega⟩, Or.inl ⟨by omega, by omega⟩, Or.inl ⟨by omega, by omega⟩, k7 (unhide HK65), k7 (unhide HK79), k7 (unhide HK4a), k7 (unhide HK4b), ?_, fun _ => ⟨rfl, rfl, rfl⟩, fun b hb => by cases hb⟩⟩, hN, Or.inr (Or.inr rfl), Or.inr (Or.inl rfl), unhide HY7, unhide HD7, fun x hx => ?_⟩
    · have := k7 (unhide HK3)
      simpa using this
    · have := (unhide HBE5).size
      rcases hx with hx | rfl | rfl <;> omega
  have HSEQ := hide (seq_any w ⟨J, K, D, .slice ao ps.length capv, ps, b⟩ yl base _ _ (unhide HPS) (unhide HGOOD) (ClB.abide _ _ _ _ _ _ _ _ _ _) (CxB.abide _ _ _ _ _ _ _ _ _ _) (unhide HHY) _ W7 (unhide HIT7) (unhide HCL7))
  have HW7 := hide hW7
  rw [← hW7]
  clear hY hgood hrec hW7 hyl hs7 hs6 hs5 k7
  refine (unhide HSEQ).mono ?_
  rintro e W8 ⟨hv, hbe8, P8, h8⟩
  refine ⟨hv, ?_⟩
  have HBE8 := hide hbe8
  clear hbe8 hv
  rcases h8 with ⟨⟨ov, tv, en, hbi⟩, hlt, hPy, hPd, hl, hdf, _⟩ | ⟨q, hq, ⟨ov, tv, en, hbi⟩, hlt, hPy, hPd, hl, hdf, _⟩
  · have hpre : Hid (Hx.ordersF K ps = (Hx.ordersF K ps).take N) := by show _ = _; rw [List.take_of_length_le (Nat.le_of_lt hlt)]
    refine Or.inl ⟨hl, ?_⟩
    have hbi' : BI w J K D (.slice ao ps.length capv) ps N ((Hx.ordersF K ps).take N) P8 W8 ov tv en := by rw [← unhide hpre]; exact hbi
    have ny : ∀ {x : Nat} {y : Array Value} {t : TypeId} {f : Nat × Nat}, W8.heap[x]? = some (.cells y t f) → x ≠ yl := fun hx e => by subst e; rw [hl] at hx; cases hx
    have hdy : W6.heap.size ≠ yl := fun e => by rw [e, hl] at hdf; cases hdf
    obtain ⟨ox, hox⟩ : ∃ ox, ox = Obj.loop { rec .ready none with state := .exhausted } := ⟨_, rfl⟩
    rw [← hox]
    clear hox
    have HBI9 := hide (hbi'.keep (W' := W8.putObj yl ox) (fun x y t f _ hx => (World.putObj_heap_other (ny hx)).trans hx))
    have HDF9 : Hid ((W8.putObj yl ox).heap[W6.heap.size]? = some (.deferred (some []))) := (World.putObj_heap_other hdy).trans hdf
    have HBE9 : Hid (Below w.heap.size w (W8.putObj yl ox)) := (unhide HBE8).grown (grownBy_putObj' W8 yl _) (unhide HBE8).size (fun k e => by cases e; have := (unhide HB6).size; have := (unhide HBE5).size; have := unhide HYL; omega)
    generalize W8.putObj yl ox = W9 at *
    obtain ⟨a8, l8, c8, rfl⟩ : ∃ a l c, ov = .slice a l c := by
      cases hb : Hx.bestF J D ps (((Hx.ordersF K ps).take N).map (·.1)) with
      | none => exact ⟨none, 0, 0, ((unhide HBI9).no hb).1⟩
      | some bb =>
        obtain ⟨a, c, e⟩ := own_form ((unhide HBI9).yes bb hb).2.1
        exact ⟨a, _, c, e⟩
    obtain ⟨a9, l9, c9, rfl⟩ : ∃ a l c, tv = .slice a l c := by
      cases hb : Hx.bestF J D ps (((Hx.ordersF K ps).take N).map (·.1)) with
      | none => exact ⟨none, 0, 0, ((unhide HBI9).no hb).2.1⟩
      | some bb =>
        obtain ⟨a, c, e⟩ := own_form ((unhide HBI9).yes bb hb).2.2.1
        exact ⟨a, _, c, e⟩
    clear hbi hbi' hl hdf hPy hPd ny hlt
    have b0 : W9.cell? ⟨w.heap.size + 1, 0, none⟩ = some (.slice a8 l8 c8) := blk_cell (unhide HBI9).bt 0
    have b1 : W9.cell? ⟨w.heap.size + 1, 1, none⟩ = some (.slice a9 l9 c9) := blk_cell (unhide HBI9).bt 1
    have b2 : W9.cell? ⟨w.heap.size + 1, 2, none⟩ = some (.int .i64 en) := blk_cell (unhide HBI9).bt 2
    have bf := blk_free (unhide HBI9).bt
    obtain ⟨fb, hfb⟩ : ∃ fb, fb = (Hx.bestF J D ps (((Hx.ordersF K ps).take N).map (·.1))).isSome := ⟨_, rfl⟩
    obtain ⟨mb, hmb⟩ : ∃ mb, mb = Hx.lastB ((Hx.ordersF K ps).take N) := ⟨_, rfl⟩
    have HFB := hide hfb
    have HMB := hide hmb
    have f0 : W9.cell? ⟨w.heap.size + 1 + 1, 0, none⟩ = some (.bool fb) := by rw [hfb]; exact blk_cell (unhide HBI9).fd 0
    have ff := blk_free (unhide HBI9).fd 0
    have m0 : W9.cell? ⟨w.heap.size + 1 + 1 + 1, 0, none⟩ = some (.bool mb) := by rw [hmb]; exact blk_cell (unhide HBI9).mr 0
    have mf := blk_free (unhide HBI9).mr 0
    have n1 : ∀ x y, W9.heap[x]? = some (.deferred y) → x ≠ w.heap.size + 1 ∧ x ≠ w.heap.size + 1 + 1 ∧ x ≠ w.heap.size + 1 + 1 + 1 := fun x y hx => ⟨fun e => (by rw [e, (unhide HBI9).bt] at hx; cases hx), fun e => (by rw [e, (unhide HBI9).fd] at hx; cases hx), fun e => (by rw [e, (unhide HBI9).mr] at hx; cases hx)⟩
    obtain ⟨d1, d2, d3⟩ := n1 _ _ (unhide HDF9)
    have HZ1 : Hid ((((((W9.setCell ⟨w.heap.size + 1, 0, none⟩ (.slice a8 l8 c8)).setCell ⟨w.heap.size + 1, 1, none⟩ (.slice a9 l9 c9)).setCell ⟨w.heap.size + 1, 2, none⟩ (.int .i64 en)).setCell ⟨w.heap.size + 1 + 1, 0, none⟩ (.bool fb)).setCell ⟨w.heap.size + 1 + 1 + 1, 0, none⟩ (.bool mb)).heap[w.heap.size + 1]? = some (.cells #[.slice a8 l8 c8, .slice a9 l9 c9, .int .i64 en] 89 (0, 0))) := blk_set_other (blk_set_other (three_set W9 _ _ _ (.slice a8 l8 c8) (.slice a9 l9 c9) (.int .i64 en) (unhide HBI9).bt) (by omega) _ _) (by omega) _ _
    have HZ2 : Hid ((((((W9.setCell ⟨w.heap.size + 1, 0, none⟩ (.slice a8 l8 c8)).setCell ⟨w.heap.size + 1, 1, none⟩ (.slice a9 l9 c9)).setCell ⟨w.heap.size + 1, 2, none⟩ (.int .i64 en)).setCell ⟨w.heap.size + 1 + 1, 0, none⟩ (.bool fb)).setCell ⟨w.heap.size + 1 + 1 + 1, 0, none⟩ (.bool mb)).heap[w.heap.size + 1 + 1]? = some (.cells #[.bool fb] 4 (0, 0))) := by
      refine blk_set_other ?_ (by omega) _ _
      exact blk_set (blk_set_other (blk_set_other (blk_set_other (unhide HBI9).fd (by omega) _ _) (by omega) _ _) (by omega) _ _) 0 (.bool fb)
    have HZ3 : Hid ((((((W9.setCell ⟨w.heap.size + 1, 0, none⟩ (.slice a8 l8 c8)).setCell ⟨w.heap.size + 1, 1, none⟩ (.slice a9 l9 c9)).setCell ⟨w.heap.size + 1, 2, none⟩ (.int .i64 en)).setCell ⟨w.heap.size + 1 + 1, 0, none⟩ (.bool fb)).setCell ⟨w.heap.size + 1 + 1 + 1, 0, none⟩ (.bool mb)).heap[w.heap.size + 1 + 1 + 1]? = some (.cells #[.bool mb] 4 (0, 0))) :=
      blk_set (blk_set_other (blk_set_other (blk_set_other (blk_set_other (unhide HBI9).mr (by omega) _ _) (by omega) _ _) (by omega) _ _) (by omega) _ _) 0 (.bool mb)
    have HZO : Hid (∀ x, x ≠ w.heap.size + 1 → x ≠ w.heap.size + 1 + 1 → x ≠ w.heap.size + 1 + 1 + 1 → (((((W9.setCell ⟨w.heap.size + 1, 0, none⟩ (.slice a8 l8 c8)).setCell ⟨w.heap.size + 1, 1, none⟩ (.slice a9 l9 c9)).setCell ⟨w.heap.size + 1, 2, none⟩ (.int .i64 en)).setCell ⟨w.heap.size + 1 + 1, 0, none⟩ (.bool fb)).setCell ⟨w.heap.size + 1 + 1 + 1, 0, none⟩ (.bool mb)).heap[x]? = W9.heap[x]?) := fun x h1 h2 h3 => by
      rw [Below.heap_setCell _ _ _ x h3, Below.heap_setCell _ _ _ x h2, Below.heap_setCell _ _ _ x h1, Below.heap_setCell _ _ _ x h1, Below.heap_setCell _ _ _ x h1]
    have HZB : Hid (Below w.heap.size w (((((W9.setCell ⟨w.heap.size + 1, 0, none⟩ (.slice a8 l8 c8)).setCell ⟨w.heap.size + 1, 1, none⟩ (.slice a9 l9 c9)).setCell ⟨w.heap.size + 1, 2, none⟩ (.int .i64 en)).setCell ⟨w.heap.size + 1 + 1, 0, none⟩ (.bool fb)).setCell ⟨w.heap.size + 1 + 1 + 1, 0, none⟩ (.bool mb))) := by
      have l1 : w.heap.size ≤ w.heap.size + 1 := by omega
      have l2 : w.heap.size ≤ w.heap.size + 1 + 1 := by omega
      have l3 : w.heap.size ≤ w.heap.size + 1 + 1 + 1 := by omega
      exact ((((((unhide HBE9).setCell (p := ⟨w.heap.size + 1, 0, none⟩) l1 _).setCell (p := ⟨w.heap.size + 1, 1, none⟩) l1 _).setCell (p := ⟨w.heap.size + 1, 2, none⟩) l1 _).setCell (p := ⟨w.heap.size + 1 + 1, 0, none⟩) l2 _).setCell (p := ⟨w.heap.size + 1 + 1 + 1, 0, none⟩) l3 _)
    clear hfb hmb n1
    go_wp2_with fail
    go_region
    all_goals
      go_wp2_with fail
      generalize (((((W9.setCell ⟨w.heap.size + 1, 0, none⟩ (.slice a8 l8 c8)).setCell ⟨w.heap.size + 1, 1, none⟩ (.slice a9 l9 c9)).setCell ⟨w.heap.size + 1, 2, none⟩ (.int .i64 en)).setCell ⟨w.heap.size + 1 + 1, 0, none⟩ (.bool fb)).setCell ⟨w.heap.size + 1 + 1 + 1, 0, none⟩ (.bool mb)) = Wz at *
      have HDZ : Wz.drew.heap[W6.heap.size]? = some (.deferred (some [])) := (unhide HZO _ d1 d2 d3).trans (unhide HDF9)
      refine ⟨by simp, .inl ⟨_, _, rfl, run_takeDeferred HDZ, ?_⟩⟩
      have g1 : (Wz.drew.putObj W6.heap.size (.deferred none)).heap[w.heap.size + 1]? = some (.cells #[.slice a8 l8 c8, .slice a9 l9 c9, .int .i64 en] 89 (0, 0)) := (World.putObj_heap_other (fun e => d1 e.symm)).trans (unhide HZ1)
      have g2 : (Wz.drew.putObj W6.heap.size (.deferred none)).heap[w.heap.size + 1 + 1]? = some (.cells #[.bool fb] 4 (0, 0)) := (World.putObj_heap_other (fun e => d2 e.symm)).trans (unhide HZ2)
      have g3 : (Wz.drew.putObj W6.heap.size (.deferred none)).heap[w.heap.size + 1 + 1 + 1]? = some (.cells #[.bool mb] 4 (0, 0)) := (World.putObj_heap_other (fun e => d3 e.symm)).trans (unhide HZ3)
      have hwd : w.heap.size ≤ W6.heap.size := by have := (unhide HB6).size; have := (unhide HBE5).size; omega
      have hbz : Below w.heap.size w (Wz.drew.putObj W6.heap.size (.deferred none)) := (unhide HZB).drew.grown (grownBy_putObj' Wz.drew W6.heap.size _) (unhide HZB).drew.size (fun k e => by cases e; exact hwd)
      have hro : ∀ {x : Nat} {cur : Array Value} {t : TypeId}, W9.heap[x]? = some (.cells cur t (0, 0)) → x ≠ w.heap.size + 1 → x ≠ w.heap.size + 1 + 1 → x ≠ w.heap.size + 1 + 1 + 1 → (Wz.drew.putObj W6.heap.size (.deferred none)).heap[x]? = W9.heap[x]? := fun {x cur t} hx h1 h2 h3 => by
        have hxd : x ≠ W6.heap.size := fun e => by rw [e, unhide HDF9] at hx; cases hx
        rw [World.putObj_heap_other hxd]
        exact unhide HZO x h1 h2 h3
      generalize Wz.drew.putObj W6.heap.size (.deferred none) = Wf at *
      have c0 : Wf.cell? ⟨w.heap.size + 1, 0, none⟩ = some (.slice a8 l8 c8) := blk_cell g1 0
      have c1 : Wf.cell? ⟨w.heap.size + 1, 1, none⟩ = some (.slice a9 l9 c9) := blk_cell g1 1
      have c2 : Wf.cell? ⟨w.heap.size + 1, 2, none⟩ = some (.int .i64 en) := blk_cell g1 2
      have c3 : Wf.cell? ⟨w.heap.size + 1 + 1, 0, none⟩ = some (.bool fb) := blk_cell g2 0
      have c4 : Wf.cell? ⟨w.heap.size + 1 + 1 + 1, 0, none⟩ = some (.bool mb) := blk_cell g3 0
      refine ⟨.tuple #[.agg #[.slice a8 l8 c8, .slice a9 l9 c9, .int .i64 en], .bool fb, .bool mb], by simp [results, Tryd.results34, go_sem, c0, c1, c2, c3, c4], ?_⟩
      refine ⟨.slice a8 l8 c8, .slice a9 l9 c9, en, by rw [unhide HFB, unhide HMB], hbz, (unhide HBI9).no, fun bb hb => ?_⟩
      obtain ⟨y1, y2, y3, _, _⟩ := (unhide HBI9).yes bb hb
      have kr : ∀ {base n size : Nat} {e : TypeId} {u : Value} {xs : List Value}, W9.ownsRow base e size u n xs → (∀ x, u.ownBlock = some x → x ≠ w.heap.size + 1 ∧ x ≠ w.heap.size + 1 + 1 ∧ x ≠ w.heap.size + 1 + 1 + 1) → Wf.ownsRow base e size u n xs := fun hr hn => by
        refine own_of_kept hr fun x hx => ?_
        rcases hr.2 with ⟨e, _⟩ | ⟨g, cap, cur, e, _, h4, _⟩
        · subst e; cases hx
        · subst e; cases hx
          exact hro h4 (hn _ rfl).1 (hn _ rfl).2.1 (hn _ rfl).2.2
      refine ⟨y1, kr y2 (fun x hx => ⟨row_ty y2 (unhide HBI9).bt (by decide) x hx, row_ty y2 (unhide HBI9).fd (by decide) x hx, row_ty y2 (unhide HBI9).mr (by decide) x hx⟩), own_mono (kr y3 (fun x hx => ?_)) (by omega)⟩
      have := (y3.lt x hx).1
      refine ⟨?_, ?_, ?_⟩ <;> omega
  · have hpre : Hid (q = (Hx.ordersF K ps).take N) := by
      show _ = _
      obtain ⟨r, hr⟩ := hq
      simp only at hr
      rw [← hr, ← hlt, List.take_left]
    refine Or.inr ⟨.exit 0, hl, ?_⟩
    have hbi' : BI w J K D (.slice ao ps.length capv) ps N ((Hx.ordersF K ps).take N) P8 W8 ov tv en := by rw [← unhide hpre]; exact hbi
    have ny : ∀ {x : Nat} {y : Array Value} {t : TypeId} {f : Nat × Nat}, W8.heap[x]? = some (.cells y t f) → x ≠ yl := fun hx e => by subst e; rw [hl] at hx; cases hx
    have hdy : W6.heap.size ≠ yl := fun e => by rw [e, hl] at hdf; cases hdf
    obtain ⟨ox, hox⟩ : ∃ ox, ox = Obj.loop { rec .done (some (.exit 0)) with state := .exhausted } := ⟨_, rfl⟩
    rw [← hox]
    clear hox
    have HBI9 := hide (hbi'.keep (W' := W8.putObj yl ox) (fun x y t f _ hx => (World.putObj_heap_other (ny hx)).trans hx))
    have HDF9 : Hid ((W8.putObj yl ox).heap[W6.heap.size]? = some (.deferred (some []))) := (World.putObj_heap_other hdy).trans hdf
    have HBE9 : Hid (Below w.heap.size w (W8.putObj yl ox)) := (unhide HBE8).grown (grownBy_putObj' W8 yl _) (unhide HBE8).size (fun k e => by cases e; have := (unhide HB6).size; have := (unhide HBE5).size; have := unhide HYL; omega)
    generalize W8.putObj yl ox = W9 at *
    obtain ⟨a8, l8, c8, rfl⟩ : ∃ a l c, ov = .slice a l c := by
      cases hb : Hx.bestF J D ps (((Hx.ordersF K ps).take N).map (·.1)) with
      | none => exact ⟨none, 0, 0, ((unhide HBI9).no hb).1⟩
      | some bb =>
        obtain ⟨a, c, e⟩ := own_form ((unhide HBI9).yes bb hb).2.1
        exact ⟨a, _, c, e⟩
    obtain ⟨a9, l9, c9, rfl⟩ : ∃ a l c, tv = .slice a l c := by
      cases hb : Hx.bestF J D ps (((Hx.ordersF K ps).take N).map (·.1)) with
      | none => exact ⟨none, 0, 0, ((unhide HBI9).no hb).2.1⟩
      | some bb =>
        obtain ⟨a, c, e⟩ := own_form ((unhide HBI9).yes bb hb).2.2.1
        exact ⟨a, _, c, e⟩
    clear hbi hbi' hl hdf hPy hPd ny hlt
    have b0 : W9.cell? ⟨w.heap.size + 1, 0, none⟩ = some (.slice a8 l8 c8) := blk_cell (unhide HBI9).bt 0
    have b1 : W9.cell? ⟨w.heap.size + 1, 1, none⟩ = some (.slice a9 l9 c9) := blk_cell (unhide HBI9).bt 1
    have b2 : W9.cell? ⟨w.heap.size + 1, 2, none⟩ = some (.int .i64 en) := blk_cell (unhide HBI9).bt 2
    have bf := blk_free (unhide HBI9).bt
    obtain ⟨fb, hfb⟩ : ∃ fb, fb = (Hx.bestF J D ps (((Hx.ordersF K ps).take N).map (·.1))).isSome := ⟨_, rfl⟩
    obtain ⟨mb, hmb⟩ : ∃ mb, mb = Hx.lastB ((Hx.ordersF K ps).take N) := ⟨_, rfl⟩
    have HFB := hide hfb
    have HMB := hide hmb
    have f0 : W9.cell? ⟨w.heap.size + 1 + 1, 0, none⟩ = some (.bool fb) := by rw [hfb]; exact blk_cell (unhide HBI9).fd 0
    have ff := blk_free (unhide HBI9).fd 0
    have m0 : W9.cell? ⟨w.heap.size + 1 + 1 + 1, 0, none⟩ = some (.bool mb) := by rw [hmb]; exact blk_cell (unhide HBI9).mr 0
    have mf := blk_free (unhide HBI9).mr 0
    have n1 : ∀ x y, W9.heap[x]? = some (.deferred y) → x ≠ w.heap.size + 1 ∧ x ≠ w.heap.size + 1 + 1 ∧ x ≠ w.heap.size + 1 + 1 + 1 := fun x y hx => ⟨fun e => (by rw [e, (unhide HBI9).bt] at hx; cases hx), fun e => (by rw [e, (unhide HBI9).fd] at hx; cases hx), fun e => (by rw [e, (unhide HBI9).mr] at hx; cases hx)⟩
    obtain ⟨d1, d2, d3⟩ := n1 _ _ (unhide HDF9)
    have HZ1 : Hid ((((((W9.setCell ⟨w.heap.size + 1, 0, none⟩ (.slice a8 l8 c8)).setCell ⟨w.heap.size + 1, 1, none⟩ (.slice a9 l9 c9)).setCell ⟨w.heap.size + 1, 2, none⟩ (.int .i64 en)).setCell ⟨w.heap.size + 1 + 1, 0, none⟩ (.bool fb)).setCell ⟨w.heap.size + 1 + 1 + 1, 0, none⟩ (.bool mb)).heap[w.heap.size + 1]? = some (.cells #[.slice a8 l8 c8, .slice a9 l9 c9, .int .i64 en] 89 (0, 0))) := blk_set_other (blk_set_other (three_set W9 _ _ _ (.slice a8 l8 c8) (.slice a9 l9 c9) (.int .i64 en) (unhide HBI9).bt) (by omega) _ _) (by omega) _ _
    have HZ2 : Hid ((((((W9.setCell ⟨w.heap.size + 1, 0, none⟩ (.slice a8 l8 c8)).setCell ⟨w.heap.size + 1, 1, none⟩ (.slice a9 l9 c9)).setCell ⟨w.heap.size + 1, 2, none⟩ (.int .i64 en)).setCell ⟨w.heap.size + 1 + 1, 0, none⟩ (.bool fb)).setCell ⟨w.heap.size + 1 + 1 + 1, 0, none⟩ (.bool mb)).heap[w.heap.size + 1 + 1]? = some (.cells #[.bool fb] 4 (0, 0))) := by
      refine blk_set_other ?_ (by omega) _ _
      exact blk_set (blk_set_other (blk_set_other (blk_set_other (unhide HBI9).fd (by omega) _ _) (by omega) _ _) (by omega) _ _) 0 (.bool fb)
    have HZ3 : Hid ((((((W9.setCell ⟨w.heap.size + 1, 0, none⟩ (.slice a8 l8 c8)).setCell ⟨w.heap.size + 1, 1, none⟩ (.slice a9 l9 c9)).setCell ⟨w.heap.size + 1, 2, none⟩ (.int .i64 en)).setCell ⟨w.heap.size + 1 + 1, 0, none⟩ (.bool fb)).setCell ⟨w.heap.size + 1 + 1 + 1, 0, none⟩ (.bool mb)).heap[w.heap.size + 1 + 1 + 1]? = some (.cells #[.bool mb] 4 (0, 0))) :=
      blk_set (blk_set_other (blk_set_other (blk_set_other (blk_set_other (unhide HBI9).mr (by omega) _ _) (by omega) _ _) (by omega) _ _) (by omega) _ _) 0 (.bool mb)
    have HZO : Hid (∀ x, x ≠ w.heap.size + 1 → x ≠ w.heap.size + 1 + 1 → x ≠ w.heap.size + 1 + 1 + 1 → (((((W9.setCell ⟨w.heap.size + 1, 0, none⟩ (.slice a8 l8 c8)).setCell ⟨w.heap.size + 1, 1, none⟩ (.slice a9 l9 c9)).setCell ⟨w.heap.size + 1, 2, none⟩ (.int .i64 en)).setCell ⟨w.heap.size + 1 + 1, 0, none⟩ (.bool fb)).setCell ⟨w.heap.size + 1 + 1 + 1, 0, none⟩ (.bool mb)).heap[x]? = W9.heap[x]?) := fun x h1 h2 h3 => by
      rw [Below.heap_setCell _ _ _ x h3, Below.heap_setCell _ _ _ x h2, Below.heap_setCell _ _ _ x h1, Below.heap_setCell _ _ _ x h1, Below.heap_setCell _ _ _ x h1]
    have HZB : Hid (Below w.heap.size w (((((W9.setCell ⟨w.heap.size + 1, 0, none⟩ (.slice a8 l8 c8)).setCell ⟨w.heap.size + 1, 1, none⟩ (.slice a9 l9 c9)).setCell ⟨w.heap.size + 1, 2, none⟩ (.int .i64 en)).setCell ⟨w.heap.size + 1 + 1, 0, none⟩ (.bool fb)).setCell ⟨w.heap.size + 1 + 1 + 1, 0, none⟩ (.bool mb))) := by
      have l1 : w.heap.size ≤ w.heap.size + 1 := by omega
      have l2 : w.heap.size ≤ w.heap.size + 1 + 1 := by omega
      have l3 : w.heap.size ≤ w.heap.size + 1 + 1 + 1 := by omega
      exact ((((((unhide HBE9).setCell (p := ⟨w.heap.size + 1, 0, none⟩) l1 _).setCell (p := ⟨w.heap.size + 1, 1, none⟩) l1 _).setCell (p := ⟨w.heap.size + 1, 2, none⟩) l1 _).setCell (p := ⟨w.heap.size + 1 + 1, 0, none⟩) l2 _).setCell (p := ⟨w.heap.size + 1 + 1 + 1, 0, none⟩) l3 _)
    clear hfb hmb n1
    go_wp2_with fail
    go_region
    all_goals
      go_wp2_with fail
      generalize (((((W9.setCell ⟨w.heap.size + 1, 0, none⟩ (.slice a8 l8 c8)).setCell ⟨w.heap.size + 1, 1, none⟩ (.slice a9 l9 c9)).setCell ⟨w.heap.size + 1, 2, none⟩ (.int .i64 en)).setCell ⟨w.heap.size + 1 + 1, 0, none⟩ (.bool fb)).setCell ⟨w.heap.size + 1 + 1 + 1, 0, none⟩ (.bool mb)) = Wz at *
      have HDZ : Wz.drew.heap[W6.heap.size]? = some (.deferred (some [])) := (unhide HZO _ d1 d2 d3).trans (unhide HDF9)
      refine ⟨by simp, .inl ⟨_, _, rfl, run_takeDeferred HDZ, ?_⟩⟩
      have g1 : (Wz.drew.putObj W6.heap.size (.deferred none)).heap[w.heap.size + 1]? = some (.cells #[.slice a8 l8 c8, .slice a9 l9 c9, .int .i64 en] 89 (0, 0)) := (World.putObj_heap_other (fun e => d1 e.symm)).trans (unhide HZ1)
      have g2 : (Wz.drew.putObj W6.heap.size (.deferred none)).heap[w.heap.size + 1 + 1]? = some (.cells #[.bool fb] 4 (0, 0)) := (World.putObj_heap_other (fun e => d2 e.symm)).trans (unhide HZ2)
      have g3 : (Wz.drew.putObj W6.heap.size (.deferred none)).heap[w.heap.size + 1 + 1 + 1]? = some (.cells #[.bool mb] 4 (0, 0)) := (World.putObj_heap_other (fun e => d3 e.symm)).trans (unhide HZ3)
      have hwd : w.heap.size ≤ W6.heap.size := by have := (unhide HB6).size; have := (unhide HBE5).size; omega
      have hbz : Below w.heap.size w (Wz.drew.putObj W6.heap.size (.deferred none)) := (unhide HZB).drew.grown (grownBy_putObj' Wz.drew W6.heap.size _) (unhide HZB).drew.size (fun k e => by cases e; exact hwd)
      have hro : ∀ {x : Nat} {cur : Array Value} {t : TypeId}, W9.heap[x]? = some (.cells cur t (0, 0)) → x ≠ w.heap.size + 1 → x ≠ w.heap.size + 1 + 1 → x ≠ w.heap.size + 1 + 1 + 1 → (Wz.drew.putObj W6.heap.size (.deferred none)).heap[x]? = W9.heap[x]? := fun {x cur t} hx h1 h2 h3 => by
        have hxd : x ≠ W6.heap.size := fun e => by rw [e, unhide HDF9] at hx; cases hx
        rw [World.putObj_heap_other hxd]
        exact unhide HZO x h1 h2 h3
      generalize Wz.drew.putObj W6.heap.size (.deferred none) = Wf at *
      have c0 : Wf.cell? ⟨w.heap.size + 1, 0, none⟩ = some (.slice a8 l8 c8) := blk_cell g1 0
      have c1 : Wf.cell? ⟨w.heap.size + 1, 1, none⟩ = some (.slice a9 l9 c9) := blk_cell g1 1
      have c2 : Wf.cell? ⟨w.heap.size + 1, 2, none⟩ = some (.int .i64 en) := blk_cell g1 2
      have c3 : Wf.cell? ⟨w.heap.size + 1 + 1, 0, none⟩ = some (.bool fb) := blk_cell g2 0
      have c4 : Wf.cell? ⟨w.heap.size + 1 + 1 + 1, 0, none⟩ = some (.bool mb) := blk_cell g3 0
      refine ⟨.tuple #[.agg #[.slice a8 l8 c8, .slice a9 l9 c9, .int .i64 en], .bool fb, .bool mb], by simp [results, Tryd.results34, go_sem, c0, c1, c2, c3, c4], ?_⟩
      refine ⟨.slice a8 l8 c8, .slice a9 l9 c9, en, by rw [unhide HFB, unhide HMB], hbz, (unhide HBI9).no, fun bb hb => ?_⟩
      obtain ⟨y1, y2, y3, _, _⟩ := (unhide HBI9).yes bb hb
      have kr : ∀ {base n size : Nat} {e : TypeId} {u : Value} {xs : List Value}, W9.ownsRow base e size u n xs → (∀ x, u.ownBlock = some x → x ≠ w.heap.size + 1 ∧ x ≠ w.heap.size + 1 + 1 ∧ x ≠ w.heap.size + 1 + 1 + 1) → Wf.ownsRow base e size u n xs := fun hr hn => by
        refine own_of_kept hr fun x hx => ?_
        rcases hr.2 with ⟨e, _⟩ | ⟨g, cap, cur, e, _, h4, _⟩
        · subst e; cases hx
        · subst e; cases hx
          exact hro h4 (hn _ rfl).1 (hn _ rfl).2.1 (hn _ rfl).2.2
      refine ⟨y1, kr y2 (fun x hx => ⟨row_ty y2 (unhide HBI9).bt (by decide) x hx, row_ty y2 (unhide HBI9).fd (by decide) x hx, row_ty y2 (unhide HBI9).mr (by decide) x hx⟩), own_mono (kr y3 (fun x hx => ?_)) (by omega)⟩
      have := (y3.lt x hx).1
      refine ⟨?_, ?_, ?_⟩ <;> omega

end Go.Proofs.YtppcnlkhdgmaiaaDoor
