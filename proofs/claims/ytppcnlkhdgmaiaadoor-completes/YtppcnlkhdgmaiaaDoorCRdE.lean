/- What reading a whole protocol does: readProtocol answers the parsed protocol, or the place at which the text ceases to be one. -/
import Derived.Test.YtppcnlkhdgmaiaaDoorCRdD
import Derived.Deep.RegionLaw
import Derived.Deep.DeepCutAuto
namespace Go.Proofs.YtppcnlkhdgmaiaaDoor
open Go.RowKit

theorem step_append_own {P : Program} {ops : Array Oper} {o : Oper} {a : Act} {w : World} {K : Act → World → Prop} {Q : Exit → Act → World → Prop} {E : Prop}
    (hg : o.guard = none) (s x : Operand) (t : TypeId) (hop : o.op = Op.call { callee := Callee.builtin Builtin.append, args := #[s, x], argTypes := #[t, t] })
    (base : Nat) (e : TypeId) (i : TypeInfo) (z : Value) (size bytes : Nat) (ht : P.underlying t = some (.slice e)) (hi : P.info? e = some i) (hz : i.zero = some z)
    (hsize : i.size = size) (hby : i.bytes = bytes) (hzs : z.cells.size = size) (hsz : 0 < size)
    (v : Value) (n : Nat) (xs : List Value) (hs : a.eval s = v) (hown : w.ownsRow base e size v n xs)
    (ad : Addr) (m c : Nat) (news : List Value) (hx : a.eval x = .slice (some ad) m c) (hl : news.length = m * size) (hnews : ∀ j u, news[j]? = some u → w.cell? (ad.add j) = some u) (h1 : ∀ u ∈ news, u.oneCell' = true)
    (h63 : n + m ≤ maxLen) (hbytes : (n + m) * bytes ≤ 140737488355328) (hbase : base ≤ w.heap.size)
    (h : ∀ v' w', w'.ownsRow base e size v' (n + m) (xs ++ news) → w.grownBy w' v.ownBlock → K (a.put o.dst v') w') :
    if Region.wanted o (yielded ops a.tmps) = true then Oper.wp P o a w K Q else E := by
  have hw : Region.wanted o (yielded ops a.tmps) = true := by simp [Region.wanted, hg]
  rw [if_pos hw]
  exact wp_append_own w s x t hop base e i z size bytes ht hi hz hsize hby hzs hsz v n xs hs hown ad m c news hx hl hnews h1 h63 hbytes hbase fun v' w' h2 h3 _ => h v' w' h2 h3

theorem own_form {w : World} {base : Nat} {e : TypeId} {size : Nat} {v : Value} {n : Nat} {xs : List Value} (h : w.ownsRow base e size v n xs) : ∃ ao cap, v = .slice ao n cap := by
  rcases h.2 with ⟨rfl, rfl⟩ | ⟨g, cap, cur, rfl, _⟩
  · exact ⟨_, _, rfl⟩
  · exact ⟨_, _, rfl⟩
theorem own_mono {w : World} {base base' : Nat} {e : TypeId} {size : Nat} {v : Value} {n : Nat} {xs : List Value} (h : w.ownsRow base e size v n xs) (hb : base' ≤ base) : w.ownsRow base' e size v n xs := by
  refine ⟨h.1, ?_⟩
  rcases h.2 with h2 | ⟨g, cap, cur, rfl, h3, h4⟩
  · exact Or.inl h2
  · exact Or.inr ⟨g, cap, cur, rfl, Nat.le_trans hb h3, h4⟩
theorem own_apart {w : World} {base base' : Nat} {e e' : TypeId} {size size' : Nat} {v v' : Value} {n n' : Nat} {xs xs' : List Value} (h : w.ownsRow base e size v n xs) (h' : w.ownsRow base' e' size' v' n' xs') (hne : e ≠ e') : v.ownBlock = none ∨ v.ownBlock ≠ v'.ownBlock := by
  rcases h.2 with ⟨rfl, _⟩ | ⟨g, cap, cur, rfl, _, h4, _⟩
  · exact Or.inl rfl
  · right
    rcases h'.2 with ⟨rfl, _⟩ | ⟨g', cap', cur', rfl, _, h4', _⟩
    · intro e; cases e
    · intro e
      have : g = g' := by simpa [Value.ownBlock] using e
      subst this
      rw [h4] at h4'
      simp at h4'
      exact hne h4'.2

/-- The plates, as a slice of slices of steps that the call itself made. -/
def Plts (w : World) (base : Nat) (v : Value) (acc : List (List Hx.Stp)) : Prop :=
  ∃ vs : List Value, w.ownsRow base 124 1 v acc.length vs ∧ ∀ (i : Nat) (p : List Hx.Stp), acc[i]? = some p → ∃ u, vs[i]? = some u ∧ w.ownsRow base 81 5 u p.length (accCells p) ∧ p.length ≤ 121

theorem Plts.nil (w : World) (base : Nat) : Plts w base (.slice none 0 0) [] := ⟨[], World.ownsRow_nil _ _ _ _, by simp⟩
theorem Plts.kept {w w' : World} {base : Nat} {v : Value} {acc : List (List Hx.Stp)} {b : Nat} (h : Plts w base v acc) (hg : w.grownBy w' (some b)) (hb : b < base) : Plts w' base v acc := by
  obtain ⟨vs, h1, h2⟩ := h
  refine ⟨vs, h1.kept hg (own_ne h1 hb), fun i p hp => ?_⟩
  obtain ⟨u, e1, e2, e3⟩ := h2 i p hp
  exact ⟨u, e1, e2.kept hg (own_ne e2 hb), e3⟩
theorem Plts.snoc {w w' : World} {base : Nat} {v v' u : Value} {acc : List (List Hx.Stp)} {p : List Hx.Stp} {vs : List Value} (h : w.ownsRow base 124 1 v acc.length vs)
    (h2 : ∀ (i : Nat) (q : List Hx.Stp), acc[i]? = some q → ∃ u, vs[i]? = some u ∧ w.ownsRow base 81 5 u q.length (accCells q) ∧ q.length ≤ 121) (hu : w.ownsRow base 81 5 u p.length (accCells p)) (hp : p.length ≤ 121)
    (hv' : w'.ownsRow base 124 1 v' (acc.length + 1) (vs ++ [u])) (hg : w.grownBy w' v.ownBlock) : Plts w' base v' (acc ++ [p]) := by
  have hlen : vs.length = acc.length := by simpa using h.1
  refine ⟨vs ++ [u], by simpa using hv', fun i q hq => ?_⟩
  by_cases hi : i < acc.length
  · rw [List.getElem?_append_left hi] at hq
    obtain ⟨x, e1, e2, e3⟩ := h2 i q hq
    exact ⟨x, by rw [List.getElem?_append_left (by omega)]; exact e1, e2.kept hg (own_apart e2 h (by decide)), e3⟩
  · rw [List.getElem?_append_right (by omega)] at hq
    have hi2 : i = acc.length := by
      by_cases e : i - acc.length = 0
      · omega
      · obtain ⟨k, hk⟩ := Nat.exists_eq_succ_of_ne_zero e
        rw [hk] at hq; simp at hq
    subst hi2
    simp at hq
    subst hq
    exact ⟨u, by rw [List.getElem?_append_right (by omega)]; simp [hlen], hu.kept hg (own_apart hu h (by decide)), hp⟩

theorem Plts.mono {w : World} {base base' : Nat} {v : Value} {acc : List (List Hx.Stp)} (h : Plts w base v acc) (hb : base' ≤ base) : Plts w base' v acc := by
  obtain ⟨vs, h1, h2⟩ := h
  refine ⟨vs, own_mono h1 hb, fun i p hp => ?_⟩
  obtain ⟨u, e1, e2, e3⟩ := h2 i p hp
  exact ⟨u, e1, own_mono e2 hb, e3⟩
theorem Plts.set {w : World} {base : Nat} {v : Value} {acc : List (List Hx.Stp)} {b : Nat} (h : Plts w base v acc) (hb : b < base) (o : Nat) (x : Value) : Plts (w.setCell ⟨b, o, none⟩ x) base v acc := h.kept (grown_set w b o x) hb
theorem blk_set {w : World} {k : Nat} {a : Array Value} {T : TypeId} (h : w.heap[k]? = some (.cells a T (0, 0))) (o : Nat) (v : Value) : (w.setCell ⟨k, o, none⟩ v).heap[k]? = some (.cells (a.setIfInBounds o v) T (0, 0)) := by
  simp [World.setCell, Array.getElem?_modify, h]
theorem blk_set_other {w : World} {k j : Nat} {x : Obj} (h : w.heap[k]? = some x) (hne : k ≠ j) (o : Nat) (v : Value) : (w.setCell ⟨j, o, none⟩ v).heap[k]? = some x :=
  (Below.heap_setCell w ⟨j, o, none⟩ v k hne).trans h

/-- What lies in memory while a protocol is read: the answer's cells, the reader, the parsed protocol so far. -/
structure Hd (s : ByteArray) (w w' : World) (st : Hx.St) (a : Array Value) : Prop where
  rd : Rd 147 s (w.heap.size + 1) st w'
  lo : w'.heap[w.heap.size + 1 + 1]? = some (.cells a 75 (0, 0))
  re : w'.heap[w.heap.size]? = some (.cells #[.int .i64 0, .int .i64 0, .int .i64 0, .slice none 0 0] 75 (0, 0))
  be : Below w.heap.size w w'

theorem Hd.tab {s w w' st a} (h : Hd s w w' st a) (ht : Tab w) : Tab w' := fun i hi => by
  have h1 := ht i hi
  have := World.block_lt_of_cell? w ⟨1, i, none⟩ h1
  rw [h.be.cell this]; exact h1
theorem Tab.pos {w : World} (h : Tab w) : 1 < w.heap.size := (World.block_lt_of_cell? w ⟨1, 0, none⟩ (h 0 (by omega)))
theorem Hd.call {s w w' w'' st st' a} (h : Hd s w w' st a) (hr : Rd 147 s (w.heap.size + 1) st' w'') (hg : w'.grownBy w'' (some (w.heap.size + 1))) : Hd s w w'' st' a :=
  ⟨hr, blk_kept h.lo hg (by simp), blk_kept h.re hg (by simp), h.be.grown hg h.be.size (by simp)⟩
theorem Hd.own {s w w' w'' st a} {row : Option Nat} (h : Hd s w w' st a) (hg : w'.grownBy w'' row) (hrow : ∀ k, row = some k → w.heap.size + 3 ≤ k) : Hd s w w'' st a :=
  ⟨h.rd.kept hg (fun e => by have := hrow _ e.symm; omega), blk_kept h.lo hg (fun e => by have := hrow _ e.symm; omega), blk_kept h.re hg (fun e => by have := hrow _ e.symm; omega), h.be.grown hg h.be.size (fun k e => by have := hrow k e; omega)⟩
theorem Hd.store {s w w' st a} (h : Hd s w w' st a) (o : Nat) (v : Value) : Hd s w (w'.setCell ⟨w.heap.size + 1 + 1, o, none⟩ v) st (a.setIfInBounds o v) :=
  ⟨h.rd.set_other (by omega) _ _, blk_set h.lo _ _, blk_set_other h.re (by omega) _ _, h.be.setCell (by show _ ≤ w.heap.size + 1 + 1; omega) _⟩

theorem Hd.init (s : ByteArray) (w : World) : Hd s w (((w.alloc (.cells #[.int .i64 0, .int .i64 0, .int .i64 0, .slice none 0 0] 75)).alloc (.cells #[.string s, .int .i64 0, .bool false] 147)).alloc (.cells #[.int .i64 0, .int .i64 0, .int .i64 0, .slice none 0 0] 75)) ⟨0, false⟩ #[.int .i64 0, .int .i64 0, .int .i64 0, .slice none 0 0] := by
  have g1 := (Below.refl w.heap.size w).alloc (Nat.le_refl _) (.cells #[.int .i64 0, .int .i64 0, .int .i64 0, .slice none 0 0] 75)
  have b1 := blk_new w #[.int .i64 0, .int .i64 0, .int .i64 0, .slice none 0 0] 75
  have s1 := size_alloc_ w (.cells #[.int .i64 0, .int .i64 0, .int .i64 0, .slice none 0 0] 75)
  generalize w.alloc (.cells #[.int .i64 0, .int .i64 0, .int .i64 0, .slice none 0 0] 75) = w1 at *
  have g2 := g1.alloc (by omega) (.cells #[.string s, .int .i64 0, .bool false] 147)
  have b2 := blk_new w1 #[.string s, .int .i64 0, .bool false] 147
  have s2 := size_alloc_ w1 (.cells #[.string s, .int .i64 0, .bool false] 147)
  have b12 := blk_kept b1 (grown_alloc w1 (.cells #[.string s, .int .i64 0, .bool false] 147) none) (by simp)
  generalize w1.alloc (.cells #[.string s, .int .i64 0, .bool false] 147) = w2 at *
  have g3 := g2.alloc (by omega) (.cells #[.int .i64 0, .int .i64 0, .int .i64 0, .slice none 0 0] 75)
  have b3 := blk_new w2 #[.int .i64 0, .int .i64 0, .int .i64 0, .slice none 0 0] 75
  have b23 := blk_kept b2 (grown_alloc w2 (.cells #[.int .i64 0, .int .i64 0, .int .i64 0, .slice none 0 0] 75) none) (by simp)
  have b13 := blk_kept b12 (grown_alloc w2 (.cells #[.int .i64 0, .int .i64 0, .int .i64 0, .slice none 0 0] 75) none) (by simp)
  rw [s2, s1] at b3
  rw [s1] at b23
  exact ⟨b23, b3, b13, g3⟩

theorem Tryd.info124 : (Tryd.prog.info? 124).map (fun i => (i.zero, i.size, i.bytes)) = some (some (.slice none 0 0), 1, 24) := by kernel_rfl

set_option maxRecDepth 100000 in
set_option maxHeartbeats 2000000 in
theorem read_any (s : ByteArray) (w : World) (hs : s.size ≤ 120) (ht : Tab w) :
    Calls Tryd.prog 45 #[.string s] w fun e w' => Below w.heap.size w w' ∧
      (((Hx.protF s).1.bad = true ∧ e = .returned (.tuple #[.agg #[.int .i64 0, .int .i64 0, .int .i64 0, .slice none 0 0], .int .i64 ((Hx.protF s).1.pos : Int), .bool false])) ∨
       ((Hx.protF s).1.bad = false ∧ ∃ v, e = .returned (.tuple #[.agg #[.int .i64 ((Hx.headJ s).1 : Int), .int .i64 ((Hx.headK s).1 : Int), .int .i64 ((Hx.headD s).1 : Int), v], .int .i64 0, .bool true]) ∧ Plts w' w.heap.size v (Hx.protF s).2 ∧ (Hx.protF s).2.length ≤ 121)) := by
  have HT : Hid (Tab w) := ht
  have hN : 1 < w.heap.size := ht.pos
  clear ht
  go_enter Tryd.func45, Tryd.ntmps45
  go_wp2_with fail
  have h0 := Hd.init s w
  have HH := hide h0
  refine (take_any s _ ⟨0, false⟩ _ 106 _ (up1 hs) (Nat.zero_le _) rfl (by omega) h0.rd).mono ?_
  clear h0
  rintro e w1 ⟨rfl, hr1, hg1⟩
  have H1 := hide ((unhide HH).call hr1 hg1)
  clear hr1 hg1 HH
  go_wp2_with fail
  refine (number_any s _ _ _ 1 _ (up1 hs) (Hx.takeF_le (by omega) (Nat.zero_le _)) (by omega) rfl (by omega) ((unhide H1).tab HT.out) (unhide H1).rd).mono ?_
  rintro e w2 ⟨rfl, hr2, hg2⟩
  have H2 : Hid (Hd s w w2 (Hx.headJ s).2 _) := ((unhide H1).call hr2 hg2)
  clear hr2 hg2 H1
  have P2 : Hid ((Hx.headJ s).2.pos ≤ s.size) := Hx.numF_le (Hx.takeF_le (by omega) (Nat.zero_le _))
  have c0 : w2.cell? ⟨w.heap.size + 1 + 1, 0, none⟩ = some (.int .i64 0) := blk_cell (unhide H2).lo 0
  have f0 := blk_free (unhide H2).lo 0
  go_wp2_with fail
  have H3 : Hid (Hd s w _ _ #[.int .i64 ((Hx.headJ s).1 : Int), .int .i64 0, .int .i64 0, .slice none 0 0]) := ((unhide H2).store 0 (.int .i64 ((Hx.headJ s).1 : Int)))
  clear H2 c0 f0
  refine (take_any s _ _ _ 107 _ (up1 hs) P2.out rfl (by omega) (unhide H3).rd).mono ?_
  rintro e w3 ⟨rfl, hr3, hg3⟩
  have H4 := hide ((unhide H3).call hr3 hg3)
  clear hr3 hg3 H3
  go_wp2_with fail
  refine (number_any s _ _ _ 1 _ (up1 hs) (Hx.takeF_le (by omega) P2.out) (by omega) rfl (by omega) ((unhide H4).tab HT.out) (unhide H4).rd).mono ?_
  rintro e w4 ⟨rfl, hr4, hg4⟩
  have H5 : Hid (Hd s w w4 (Hx.headK s).2 _) := ((unhide H4).call hr4 hg4)
  clear hr4 hg4 H4
  have P3 : Hid ((Hx.headK s).2.pos ≤ s.size) := Hx.numF_le (Hx.takeF_le (by omega) P2.out)
  have c1 : w4.cell? ⟨w.heap.size + 1 + 1, 1, none⟩ = some (.int .i64 0) := blk_cell (unhide H5).lo 1
  have f1 := blk_free (unhide H5).lo 1
  go_wp2_with fail
  have H6 : Hid (Hd s w _ _ #[.int .i64 ((Hx.headJ s).1 : Int), .int .i64 ((Hx.headK s).1 : Int), .int .i64 0, .slice none 0 0]) := ((unhide H5).store 1 (.int .i64 ((Hx.headK s).1 : Int)))
  clear H5 c1 f1
  refine (take_any s _ _ _ 100 _ (up1 hs) P3.out rfl (by omega) (unhide H6).rd).mono ?_
  rintro e w5 ⟨rfl, hr5, hg5⟩
  have H7 := hide ((unhide H6).call hr5 hg5)
  clear hr5 hg5 H6
  go_wp2_with fail
  refine (number_any s _ _ _ 4 _ (up1 hs) (Hx.takeF_le (by omega) P3.out) (by omega) rfl (by omega) ((unhide H7).tab HT.out) (unhide H7).rd).mono ?_
  rintro e w6 ⟨rfl, hr6, hg6⟩
  have H8 : Hid (Hd s w w6 (Hx.headD s).2 _) := ((unhide H7).call hr6 hg6)
  clear hr6 hg6 H7
  have P4 : Hid ((Hx.headD s).2.pos ≤ s.size) := Hx.headD_le s
  have c2 : w6.cell? ⟨w.heap.size + 1 + 1, 2, none⟩ = some (.int .i64 0) := blk_cell (unhide H8).lo 2
  have f2 := blk_free (unhide H8).lo 2
  go_wp2_with fail
  have H9 : Hid (Hd s w _ _ #[.int .i64 ((Hx.headJ s).1 : Int), .int .i64 ((Hx.headK s).1 : Int), .int .i64 ((Hx.headD s).1 : Int), .slice none 0 0]) := ((unhide H8).store 2 (.int .i64 ((Hx.headD s).1 : Int)))
  have HZ := hide (unhide H8).be.size
  have HZ2 := hide (lt_of_block (unhide H8).lo)
  clear H8 c2 f2
  obtain ⟨i0, hi, hz0, hz1, hz2⟩ := info_parts Tryd.info124
  have HI := hide hi
  have HZ0 := hide hz0
  have HZ1 := hide hz1
  have HZ2 := hide hz2
  clear hi hz0 hz1 hz2
  go_loopg [] (s.size - (Hx.headD s).2.pos) (fun gk wr => ∃ (st' : Hx.St) (acc : List (List Hx.Stp)) (v : Value), st'.pos ≤ s.size ∧ gk = s.size - st'.pos ∧ acc.length ≤ st'.pos ∧ Hd s w wr st' #[.int .i64 ((Hx.headJ s).1 : Int), .int .i64 ((Hx.headK s).1 : Int), .int .i64 ((Hx.headD s).1 : Int), v] ∧ Plts wr (w.heap.size + 3) v acc ∧ Hx.platesF s st' acc = Hx.protF s)
  case atStart => exact ⟨_, [], _, P4.out, rfl, Nat.zero_le _, unhide H9, Plts.nil _ _, rfl⟩
  case round =>
    clear H9 P2 P3 P4
    obtain ⟨st', acc, v, hpos, rfl, hlen, hhd, hpl, hfin⟩ := hrel
    obtain ⟨vs, hvs, hps⟩ := hpl
    obtain ⟨ao, cap, rfl⟩ := own_form hvs
    have hbig : w.heap.size + 3 ≤ wr.heap.size := lt_of_block hhd.lo
    have hal : acc.length ≤ 120 := by omega
    have cL : wr.cell? ⟨w.heap.size + 1 + 1, 3, none⟩ = some (.slice ao acc.length cap) := blk_cell hhd.lo 3
    have fL := blk_free hhd.lo 3
    have HHD := hide hhd
    have HVS := hide hvs
    have HPS := hide hps
    have HFIN := hide hfin
    clear hhd hvs hps hfin
    go_wp2_with fail
    go_cut [] (fun wc => ∃ v', Hd s w wc (Hx.plateF s acc.length st').1 #[.int .i64 ((Hx.headJ s).1 : Int), .int .i64 ((Hx.headK s).1 : Int), .int .i64 ((Hx.headD s).1 : Int), v'] ∧ Plts wc (w.heap.size + 3) v' (acc ++ [(Hx.plateF s acc.length st').2]))
    case first =>
      go_region_law (first
        | (refine step_append_own rfl (.tmp 26) (.tmp 32) 73 rfl (w.heap.size + 3) 124 i0 (.slice none 0 0) 1 24 Tryd.underlying73 (unhide HI) (unhide HZ0) (unhide HZ1) (unhide HZ2) rfl (by decide) (.slice ao acc.length cap) acc.length vs (by simp [Act.eval]) ((unhide V1).alloc _) ⟨w1.heap.size, 0, none⟩ 1 1 [.slice ao1 (Hx.plateF s acc.length st').2.length cap1] (by simp [Act.eval]) rfl (news_new w1 [.slice ao1 (Hx.plateF s acc.length st').2.length cap1] 124) (by simp [Value.oneCell']) (by unfold maxLen; omega) (by omega) (by simp; omega) ?_; intro v' w3 hown' hgrow'; obtain ⟨ao3, cap3, rfl⟩ := own_form hown'; have H3 := hide (((unhide H1).own (grown_alloc w1 _ none) (by simp)).own hgrow' (fun k e => ((unhide V1).lt k e).1)); have cL3 : w3.cell? ⟨w.heap.size + 1 + 1, 3, none⟩ = some (.slice ao acc.length cap) := blk_cell (unhide H3).lo 3; have fL3 := blk_free (unhide H3).lo 3; have O3 := hide hown'; have G3 := hide hgrow'; clear hown' hgrow')
        | (go_simp; go_wp2_with (go_at_call 66; refine (plate_any s (w.heap.size + 1) st' _ acc.length _ hs hpos hal rfl (by omega) (by exact (unhide HHD).tab HT.out) (by exact (unhide HHD).rd)).mono ?_; rintro e w1 ⟨u, rfl, hown1, hl1, hr1, hg1⟩; obtain ⟨ao1, cap1, rfl⟩ := own_form hown1; have hg1' := grown_of_drew hg1; have H1 := hide ((unhide HHD).call hr1 hg1'); have V1 := hide ((unhide HVS).kept hg1' (own_ne (unhide HVS) (by omega))); have hb1 : w.heap.size + 3 ≤ w1.heap.size := lt_of_block (unhide H1).lo; have U1 := hide (own_mono hown1 (base' := w.heap.size + 3) (by exact hbig)); have PS1 : Hid (∀ (i : Nat) (q : List Hx.Stp), acc[i]? = some q → ∃ u, vs[i]? = some u ∧ w1.ownsRow (w.heap.size + 3) 81 5 u q.length (accCells q) ∧ q.length ≤ 121) := (fun i q hq => by obtain ⟨x, e1, e2, e3⟩ := unhide HPS i q hq; exact ⟨x, e1, e2.kept hg1' (own_ne e2 (by omega)), e3⟩); have cL1 : w1.cell? ⟨w.heap.size + 1 + 1, 3, none⟩ = some (.slice ao acc.length cap) := blk_cell (unhide H1).lo 3; have fL1 := blk_free (unhide H1).lo 3; have cL1a : (w1.alloc (.cells #[.slice ao1 (Hx.plateF s acc.length st').2.length cap1] 124)).cell? ⟨w.heap.size + 1 + 1, 3, none⟩ = some (.slice ao acc.length cap) := (grown_alloc w1 _ none).cell cL1 (by simp); have HL1 := hide hl1; clear hown1 hr1 hg1 hl1 hg1')))
      all_goals
        go_wp2_with fail
        go_meet
        case rel =>
          refine ⟨_, (unhide H3).store 3 _, ?_⟩
          refine Plts.kept (Plts.snoc ((unhide V1).alloc _) (fun i q hq => ?_) ((unhide U1).alloc _) (by have := HL1.out; omega) (unhide O3) (unhide G3)) (grown_set _ _ _ _) (by omega)
          obtain ⟨x, e1, e2, e3⟩ := unhide PS1 i q hq
          exact ⟨x, e1, e2.alloc _, e3⟩
    case rest =>
      obtain ⟨v', hhd', hpl'⟩ := hcut
      obtain ⟨ao2, cap2, rfl⟩ : ∃ ao cap, v' = .slice ao (acc.length + 1) cap := by
        obtain ⟨vs', h1, _⟩ := hpl'
        simpa using own_form h1
      clear cL fL HHD HVS HPS
      have hple := Hx.plateF_le (s := s) (n := acc.length) (st := st') hpos
      have HGT := hide (Hx.plateF_gt (s := s) (n := acc.length) (st := st'))
      have HBAD := hide (Hx.platesF_bad (s := s) (st := st') (acc := acc))
      have HEND := hide (Hx.platesF_end (s := s) (st := st') (acc := acc))
      have HMORE := hide (Hx.platesF_more (s := s) (st := st') (acc := acc))
      rw [unhide HFIN] at HBAD HEND HMORE
      clear HFIN
      generalize Hx.plateF s acc.length st' = r at *
      obtain ⟨⟨pos, bad⟩, p⟩ := r
      simp only at hhd' hpl' hple HGT HBAD HEND HMORE
      have d2 := hhd'.rd.c2
      have d1 := hhd'.rd.c1
      have e0 : wc.cell? ⟨w.heap.size, 0, none⟩ = some (.int .i64 0) := blk_cell hhd'.re 0
      have e1 : wc.cell? ⟨w.heap.size, 1, none⟩ = some (.int .i64 0) := blk_cell hhd'.re 1
      have e2 : wc.cell? ⟨w.heap.size, 2, none⟩ = some (.int .i64 0) := blk_cell hhd'.re 2
      have e3 : wc.cell? ⟨w.heap.size, 3, none⟩ = some (.slice none 0 0) := blk_cell hhd'.re 3
      have ef := blk_free hhd'.re
      simp only at d1 d2
      have HH := hide hhd'
      have HP := hide hpl'
      clear hhd' hpl'
      cases bad
      · have g0 : wc.cell? ⟨w.heap.size + 1 + 1, 0, none⟩ = some (.int .i64 ((Hx.headJ s).1 : Int)) := blk_cell (unhide HH).lo 0
        have g1 : wc.cell? ⟨w.heap.size + 1 + 1, 1, none⟩ = some (.int .i64 ((Hx.headK s).1 : Int)) := blk_cell (unhide HH).lo 1
        have g2 : wc.cell? ⟨w.heap.size + 1 + 1, 2, none⟩ = some (.int .i64 ((Hx.headD s).1 : Int)) := blk_cell (unhide HH).lo 2
        have g3 : wc.cell? ⟨w.heap.size + 1 + 1, 3, none⟩ = some (.slice ao2 (acc.length + 1) cap2) := blk_cell (unhide HH).lo 3
        by_cases hend : s.size ≤ pos
        · have HPR := hide (unhide HEND rfl hend)
          have HE := hide hend
          clear HEND HMORE HBAD hend
          go_wp2_with fail
          refine (ended_yes s _ ⟨pos, false⟩ _ (up1 hs) hple HE.out (unhide HH).rd).mono ?_
          rintro e w7 ⟨rfl, n7, rfl⟩
          go_wp2_with fail
          refine bodyPost_ret (v := .tuple #[.agg #[.int .i64 ((Hx.headJ s).1 : Int), .int .i64 ((Hx.headK s).1 : Int), .int .i64 ((Hx.headD s).1 : Int), .slice ao2 (acc.length + 1) cap2], .int .i64 0, .bool true]) (by simp [results, Tryd.results45, go_sem, e0, e1, e2, e3, Hx.headJ, Hx.headK, Hx.headD]) rfl ?_
          have hle := Nat.le_refl w.heap.size
          have hlt3 : w.heap.size < w.heap.size + 3 := by omega
          refine ⟨((((below_drewN (unhide HH).be n7).setCell hle _).setCell hle _).setCell hle _).setCell hle _, Or.inr ⟨by rw [unhide HPR], _, rfl, ?_, ?_⟩⟩
          · rw [unhide HPR]
            exact Plts.mono ((((Plts.kept (unhide HP) (grown_drewN _ n7 (some 0)) (by omega)).set hlt3 _ _).set hlt3 _ _).set hlt3 _ _ |>.set hlt3 _ _) (by omega)
          · rw [unhide HPR]; simp; omega
        · have HMO := hide (unhide HMORE rfl (by omega))
          have HE : Hid (pos < s.size) := show _ < _ by omega
          have HGT2 := hide (unhide HGT rfl)
          clear HEND HMORE HBAD HGT hend
          go_wp2_with fail
          refine (ended_no s _ ⟨pos, false⟩ _ (up1 hs) hple HE.out (unhide HH).rd).mono ?_
          rintro e w7 ⟨rfl, n7, rfl⟩
          go_wp2_with fail
          go_roundg (s.size - pos)
          case measure => have := HE.out; have := unhide HGT2; omega
          case rel => exact ⟨⟨pos, false⟩, acc ++ [p], _, hple, rfl, by have := unhide HGT2; simp; omega, ⟨(unhide HH).rd, (unhide HH).lo, (unhide HH).re, below_drewN (unhide HH).be _⟩, (unhide HP).kept (grown_drewN _ _ (some 0)) (by omega), (unhide HMO).symm⟩
      · have HPR := hide (unhide HBAD rfl)
        clear HEND HMORE HBAD
        go_wp2_with fail
        go_region
        all_goals
          go_wp2_with fail
          refine bodyPost_ret (v := .tuple #[.agg #[.int .i64 0, .int .i64 0, .int .i64 0, .slice none 0 0], .int .i64 (pos : Int), .bool false]) (by simp [results, Tryd.results45, go_sem, e0, e1, e2, e3]) rfl ?_
          have hle := Nat.le_refl w.heap.size
          refine ⟨?_, Or.inl ⟨by rw [unhide HPR], by rw [unhide HPR]⟩⟩
          first
            | exact (((((unhide HH).be.setCell hle _).setCell hle _).setCell hle _).setCell hle _).drew
            | exact ((((unhide HH).be.drew.setCell hle _).setCell hle _).setCell hle _).setCell hle _

end Go.Proofs.YtppcnlkhdgmaiaaDoor
