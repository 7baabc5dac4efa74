/- What hatchkeep's plan does: the plan of a shape. -/
import Derived.Test.YtppcnlkhdgmaiaaDoorCPlC
import Derived.Test.YtppcnlkhdgmaiaaDoorCRtD
namespace Go.Proofs.YtppcnlkhdgmaiaaDoor
open Go.RowKit

abbrev shapeA (sJ sK sD : Int) (sv : Value) : Array Value := #[.int .i64 sJ, .int .i64 sK, .int .i64 sD, sv]
abbrev shapeV (sJ sK sD : Int) (sv : Value) : Value := .agg (shapeA sJ sK sD sv)
/-- What lies in memory while plan goes through a shape. -/
structure InP (w : World) (sh : Array Value) (J K D : Nat) (w' : World) (v : Value) (L : List Hx.Lst) : Prop where
  sb : w'.heap[w.heap.size]? = some (.cells sh 24 (0, 0))
  rb : w'.heap[w.heap.size + 1]? = some (.cells #[.int .i64 0, .int .i64 0, .int .i64 0, .slice none 0 0] 28 (0, 0))
  pb : w'.heap[w.heap.size + 1 + 1]? = some (.cells #[.int .i64 (J : Int), .int .i64 (K : Int), .int .i64 (D : Int), v] 28 (0, 0))
  ow : w'.ownsRow (w.heap.size + 3) 39 7 v L.length (ksCells L)
  be : Below w.heap.size w w'
theorem InP.alloc {w sh J K D w' v L} (h : InP w sh J K D w' v L) (o : Obj) : InP w sh J K D (w'.alloc o) v L :=
  ⟨bA o h.sb, bA o h.rb, bA o h.pb, h.ow.alloc o, belA o h.be⟩
theorem InP.drewN {w sh J K D w' v L} (h : InP w sh J K D w' v L) (n : Nat) : InP w sh J K D (w'.drewN n) v L :=
  ⟨h.sb, h.rb, h.pb, own_below h.ow (below_drewN (Below.refl _ _) n), below_drewN h.be n⟩
theorem InP.drew {w sh J K D w' v L} (h : InP w sh J K D w' v L) : InP w sh J K D w'.drew v L := h.drewN 1
theorem InP.setx {w sh J K D w' v L} (h : InP w sh J K D w' v L) {xb : Nat} (hge : w.heap.size + 3 ≤ xb) (hap : v.ownBlock ≠ some xb) (o : Nat) (u : Value) : InP w sh J K D (w'.setCell ⟨xb, o, none⟩ u) v L :=
  ⟨blk_set_other h.sb (by omega) _ _, blk_set_other h.rb (by omega) _ _, blk_set_other h.pb (by omega) _ _, h.ow.kept (grown_set w' xb o u) (Or.inr hap), h.be.setCell (by show _ ≤ xb; omega) _⟩

theorem InP.app {w sh J K D w' v L} (h : InP w sh J K D w' v L) {o : Obj} {w'' : World} {v' : Value} {y : Hx.Lst} (ho : w''.ownsRow (w.heap.size + 3) 39 7 v' (L.length + 1) (ksCells L ++ kstCells y)) (hg : (w'.alloc o).grownBy w'' v.ownBlock) :
    w''.heap[w.heap.size + 1 + 1]? = some (.cells #[.int .i64 (J : Int), .int .i64 (K : Int), .int .i64 (D : Int), v] 28 (0, 0)) ∧ InP w sh J K D (w''.setCell ⟨w.heap.size + 1 + 1, 3, none⟩ v') v' (L ++ [y]) := by
  have hne : ∀ k, k < w.heap.size + 3 → some k ≠ v.ownBlock := fun k hk e => by have := (h.ow.lt k e.symm).1; omega
  have hb := belA o h.be
  have hpb : w''.heap[w.heap.size + 1 + 1]? = some (.cells #[.int .i64 (J : Int), .int .i64 (K : Int), .int .i64 (D : Int), v] 28 (0, 0)) := blk_kept (bA o h.pb) hg (hne _ (by omega))
  refine ⟨hpb, ⟨blk_set_other (blk_kept (bA o h.sb) hg (hne _ (by omega))) (by omega) _ _, blk_set_other (blk_kept (bA o h.rb) hg (hne _ (by omega))) (by omega) _ _, blk_set hpb 3 v', ?_, ?_⟩⟩
  · rw [ksCells_snoc, List.length_append]
    exact ho.kept (grown_set w'' _ 3 v') (Or.inr (fun e => by have := (ho.lt _ e).1; omega))
  · exact (hb.grown hg hb.size (fun k e => by have := (h.ow.lt k e).1; omega)).setCell (by show _ ≤ w.heap.size + 1 + 1; omega) _
theorem plan_start {w W1 : World} {sh : Array Value} {J K0 K1 D : Nat} (hK : K0 < 3) (hK1 : K1 = 1 + K0) (hs : W1.heap[w.heap.size]? = some (.cells sh 24 (0, 0))) (hr : W1.heap[w.heap.size + 1]? = some (.cells #[.int .i64 0, .int .i64 0, .int .i64 0, .slice none 0 0] 28 (0, 0))) (hb : Below w.heap.size w W1) (hz : W1.heap.size = w.heap.size + 1 + 1) :
    InP w sh J K1 D ((W1.alloc (.cells #[.int .i64 (J : Int), .int .i64 (IntKind.i64.wrap (1 + (K0 : Int))), .int .i64 (D : Int), .slice none 0 0] 28)).drew) (.slice none 0 0) [] := by
  have e : IntKind.i64.wrap (1 + (K0 : Int)) = (K1 : Int) := by
    rw [show 1 + (K0 : Int) = (K1 : Int) by omega]
    exact IntWalk.i64_in _ ⟨by omega, by omega⟩
  rw [e]
  exact ⟨bD (bA _ hs), bD (bA _ hr), bD (bN _ _ hz.symm), World.ownsRow_nil _ _ _ _, belD (belA _ hb)⟩
theorem lab_take {n i : Nat} {P : List Hx.Stp} {x : Hx.Stp} (h : P[i]? = some x) : Hx.lab n (P.take (i + 1)) = Hx.lab n (P.take i) ++ [⟨n, i, x⟩] := by
  have hi := (List.getElem?_eq_some_iff.1 h).1
  rw [List.take_add_one, h]
  show Hx.lab n (P.take i ++ [x]) = _
  rw [Hx.lab_snoc, List.length_take, Nat.min_eq_left (by omega)]

set_option maxRecDepth 100000 in
set_option maxHeartbeats 4000000 in
theorem plan_of_any (sJ sK sD : Int) (sv : Value) (qs : List (List Hx.Raw)) (w : World) (h1 : I64 sJ) (h2 : I64 sK) (h3 : I64 sD) (hq : RowsR w sv qs) :
    Calls Tryd.prog 12 #[shapeV sJ sK sD sv] w fun e w' => ∃ v, e = .returned (planV (Hx.pickN sJ 10) (1 + Hx.pickN sK 3) (Hx.pickN sD 1000) v) ∧ w'.ownsRow 0 39 7 v (Hx.labs (Hx.shapeP qs)).length (ksCells (Hx.labs (Hx.shapeP qs))) ∧ Below w.heap.size w w' := by
  obtain ⟨a1, a2⟩ := h1
  obtain ⟨a3, a4⟩ := h2
  obtain ⟨a5, a6⟩ := h3
  have HQ := hide hq
  obtain ⟨ao, cap, rfl, hml, _⟩ := hq
  obtain ⟨J, hJ⟩ : ∃ J, J = Hx.pickN sJ 10 := ⟨_, rfl⟩
  obtain ⟨K0, hK⟩ : ∃ K, K = Hx.pickN sK 3 := ⟨_, rfl⟩
  obtain ⟨D, hD⟩ : ∃ D, D = Hx.pickN sD 1000 := ⟨_, rfl⟩
  have lJ := Hx.pickN_lt sJ (n := 10) (by omega)
  have lK := Hx.pickN_lt sK (n := 3) (by omega)
  have lD := Hx.pickN_lt sD (n := 1000) (by omega)
  rw [← hJ] at lJ ⊢
  rw [← hK] at lK ⊢
  rw [← hD] at lD ⊢
  have HJ := hide hJ
  have HK := hide hK
  have HD := hide hD
  obtain ⟨K1, hK1⟩ : ∃ K1, K1 = 1 + K0 := ⟨_, rfl⟩
  rw [← hK1]
  have HK1 := hide hK1
  clear hJ hK hD hK1
  have HS0 := hide (bA (.cells #[.int .i64 0, .int .i64 0, .int .i64 0, .slice none 0 0] 28) (blk_new w (shapeA sJ sK sD (.slice ao qs.length cap)) 24))
  have HR0 := hide (bN #[.int .i64 0, .int .i64 0, .int .i64 0, .slice none 0 0] 28 (w := w.alloc (.cells (shapeA sJ sK sD (.slice ao qs.length cap)) 24)) (k := w.heap.size + 1) (by simp))
  have HB0 := hide (belA (.cells #[.int .i64 0, .int .i64 0, .int .i64 0, .slice none 0 0] 28) (belA (.cells (shapeA sJ sK sD (.slice ao qs.length cap)) 24) (Below.refl w.heap.size w)))
  have hs1 : ((w.alloc (.cells (shapeA sJ sK sD (.slice ao qs.length cap)) 24)).alloc (.cells #[.int .i64 0, .int .i64 0, .int .i64 0, .slice none 0 0] 28)).heap.size = w.heap.size + 1 + 1 := by simp
  go_enter Tryd.func12, Tryd.ntmps12
  go_upto_region 1 with fail
  generalize (w.alloc (.cells (shapeA sJ sK sD (.slice ao qs.length cap)) 24)).alloc (.cells #[.int .i64 0, .int .i64 0, .int .i64 0, .slice none 0 0] 28) = W1 at HS0 HR0 HB0 hs1 ⊢
  have c0 : W1.cell? ⟨w.heap.size, 0, none⟩ = some (.int .i64 sJ) := blk_cell (unhide HS0) 0
  have c1 : W1.cell? ⟨w.heap.size, 1, none⟩ = some (.int .i64 sK) := blk_cell (unhide HS0) 1
  have c2 : W1.cell? ⟨w.heap.size, 2, none⟩ = some (.int .i64 sD) := blk_cell (unhide HS0) 2
  have HSZ := hide hs1
  clear hs1
  go_cut [3] (fun s3 wc => s3 = .pointer (some ⟨w.heap.size + 1 + 1, 0, none⟩) ∧ InP w (shapeA sJ sK sD (.slice ao qs.length cap)) J K1 D wc (.slice none 0 0) [])
  case first =>
    go_region_held3 (fun w' => w'.cell? ⟨w.heap.size, 0, none⟩ = some (.int .i64 sJ) ∧ w'.cell? ⟨w.heap.size, 1, none⟩ = some (.int .i64 sK) ∧ w'.cell? ⟨w.heap.size, 2, none⟩ = some (.int .i64 sD)) (refine ⟨?_, ?_, ?_⟩ <;> (repeat (first | assumption | apply cD | apply cN | apply cA)))
      (first | (go_at_call 15; refine (pick_gen _ _ _ (by assumption) (by assumption) (by omega) (by omega)).mono ?_; rintro e w2 ⟨rfl, rfl⟩))
    all_goals
      go_wp2_with fail
      go_meet
      case rel =>
        refine ⟨by rw [unhide HSZ], ?_⟩
        rw [← unhide HJ, ← unhide HK, ← unhide HD]
        exact plan_start lK (unhide HK1) (unhide HS0) (unhide HR0) (unhide HB0) (unhide HSZ)
  case rest =>
  obtain ⟨rfl, hin⟩ := hcut
  have HIN := hide hin
  clear hin c0 c1 c2 HS0 HR0 HB0 HSZ HJ HK HD a1 a2 a3 a4 a5 a6
  obtain ⟨i0, hi, hz0, hz1, hz2⟩ := info_parts Tryd.infoKst
  have HI := hide hi
  have HZ0 := hide hz0
  have HZ1 := hide hz1
  have HZ2 := hide hz2
  clear hi hz0 hz1 hz2
  unfold maxLen at hml
  go_wp2_with fail
  go_loopg [4, 5] qs.length (fun gk pl ai wr => ∃ (a : Nat) (acc : List (List Hx.Stp)) (v : Value), a ≤ qs.length ∧ gk = qs.length - a ∧ ai = .int .i64 (a : Int) ∧ pl = .int .i64 (acc.length : Int) ∧ Hx.GoodA acc ∧ Hid (Hx.shapeF (qs.drop a) acc = Hx.shapeF qs []) ∧ InP w (shapeA sJ sK sD (.slice ao qs.length cap)) J K1 D wr v (Hx.labs acc))
  case atStart => exact ⟨0, [], _, Nat.zero_le _, rfl, rfl, rfl, Hx.GoodA.nil, rfl, unhide HIN⟩
  case round =>
    clear HIN
    obtain ⟨a, acc, v, ha, rfl, rfl, rfl, hga, HSH, hin⟩ := hrel
    have HIN := hide hin
    have HGA := hide hga
    have h4 := hga.four
    have h9 := hga.nine
    obtain ⟨vo, vc, rfl⟩ := own_form hin.ow
    have c3 : wr.cell? ⟨w.heap.size, 3, none⟩ = some (.slice ao qs.length cap) := blk_cell hin.sb 3
    clear hin hga
    by_cases hgo : a < qs.length ∧ acc.length < 4
    · obtain ⟨hlt, hp⟩ := hgo
      have hltI : (a : Int) < (qs.length : Int) := by omega
      have hpI : (acc.length : Int) < 4 := by omega
      obtain ⟨q, hq⟩ : ∃ q, qs[a]? = some q := ⟨qs[a], List.getElem?_eq_getElem hlt⟩
      obtain ⟨ao', cap', e0, _, hx0⟩ := unhide HQ
      cases e0
      obtain ⟨rb, ro, u, e1, e2, hrow⟩ := hx0 a q hq
      subst e1
      obtain ⟨bo, bcap, e3, hqm, hraw⟩ := hrow
      subst e3
      have r0 : wr.cell? ⟨rb, ro + a, none⟩ = some (.slice bo q.length bcap) := cell_below (unhide HIN).be (Nat.le_refl _) e2
      have HRAW := hide hraw
      unfold maxLen at hqm
      obtain ⟨PL, hPL⟩ : ∃ PL, PL = Hx.plateOf (9 - (Hx.labs acc).length) q := ⟨_, rfl⟩
      have hPlen : PL.length = min (min 5 (9 - (Hx.labs acc).length)) q.length := by rw [hPL]; exact Hx.plateOf_len _ _
      have HSH2 : Hid ((if PL = [] then Hx.shapeF (qs.drop (a + 1)) acc else Hx.shapeF (qs.drop (a + 1)) (acc ++ [PL])) = Hx.shapeF qs []) := by
        show _ = _
        have h := unhide HSH
        have hd : qs.drop a = q :: qs.drop (a + 1) := by
          rw [List.drop_eq_getElem_cons hlt]
          rw [List.getElem?_eq_getElem hlt] at hq
          rw [Option.some.inj hq]
        rw [hd, Hx.shapeF, if_pos hp, ← hPL] at h
        exact h
      have HPA : Hid (∀ i x, q[i]? = some x → i < PL.length → PL[i]? = some (Hx.stpOf i x)) := fun i x hx hi => by
        rw [hPL]
        exact Hx.plateOf_at hx (by rw [hPlen] at hi; omega)
      have HPS : Hid (PL ≠ [] → Hx.GoodA (acc ++ [PL])) := fun hne => by rw [hPL] at hne ⊢; exact (unhide HGA).snoc hp q hne
      obtain ⟨n0, hn0⟩ : ∃ n0, n0 = (Hx.labs acc).length := ⟨_, rfl⟩
      rw [← hn0] at hPlen h9
      have HN0 := hide hn0
      clear hx0 hraw e2 hq HSH hPL hn0
      go_wp2_with fail
      go_loopg [7, 8] PL.length (fun gk nn ii wr => ∃ (i : Nat) (v : Value), i ≤ PL.length ∧ gk = PL.length - i ∧ nn = .int .i64 (i : Int) ∧ ii = .int .i64 (i : Int) ∧ InP w (shapeA sJ sK sD (.slice (some ⟨rb, ro, none⟩) qs.length cap)) J K1 D wr v (Hx.labs acc ++ Hx.lab acc.length (PL.take i)))
      case atStart => exact ⟨0, _, Nat.zero_le _, rfl, rfl, rfl, by rw [List.take_zero, Hx.lab_nil, List.append_nil]; exact unhide HIN⟩
      case round =>
        clear HIN r0 c3
        obtain ⟨i, v, hi, rfl, rfl, rfl, hin⟩ := hrel
        obtain ⟨LL, hLL⟩ : ∃ LL, LL = Hx.labs acc ++ Hx.lab acc.length (PL.take i) := ⟨_, rfl⟩
        have hLn : LL.length = n0 + i := by
          rw [hLL, List.length_append, unhide HN0]
          congr 1
          simp [Hx.lab]; omega
        rw [← hLL] at hin
        obtain ⟨vo, vc, rfl⟩ := own_form hin.ow
        have p3 : wr.cell? ⟨w.heap.size + 1 + 1, 3, none⟩ = some (.slice vo LL.length vc) := blk_cell hin.pb 3
        have HIN := hide hin
        have HLL := hide hLL
        have HLN := hide hLn
        have hl9 : LL.length ≤ 9 := by omega
        clear hin hLL hLn
        by_cases hlt2 : i < PL.length
        · have g1 : (i : Int) < (q.length : Int) := by omega
          have g2 : (i : Int) < 5 := by omega
          have g3 : (LL.length : Int) < 9 := by have := unhide HLN; omega
          obtain ⟨x, hx⟩ : ∃ x, q[i]? = some x := ⟨q[i]'(by omega), List.getElem?_eq_getElem _⟩
          have HPX := hide (unhide HPA i x hx hlt2)
          obtain ⟨hrok, b2, o2, e2, hcells⟩ := unhide HRAW i x hx
          subst e2
          have x0 : wr.cell? ⟨b2, o2 + i * 5, none⟩ = some (.int .i64 x.lo) := cell_below (unhide HIN).be (Nat.le_refl _) (hcells 0 (by omega))
          have HCE := hide hcells
          obtain ⟨q1, q2⟩ := hrok.lo
          obtain ⟨q3, q4⟩ := hrok.more
          obtain ⟨q5, q6⟩ := hrok.rest
          obtain ⟨q7, q8⟩ := hrok.mn
          obtain ⟨q9, q10⟩ := hrok.wide
          have HST : Hid (Hx.stpOf i x = ⟨1 + Hx.pickN x.lo 40, 1 + Hx.pickN x.lo 40 + Hx.pickN x.more 20, Hx.restOf i x, if Hx.restOf i x then Hx.pickN x.mn 40 else 0, if Hx.restOf i x then Hx.pickN x.mn 40 + Hx.pickN x.wide 80 else 0⟩) := rfl
          have HRO : Hid (Hx.restOf i x = (decide (0 < i) && decide (Hx.pickN x.rest 2 = 1))) := rfl
          have HP1 : Hid (∀ w', Calls Tryd.prog 15 #[.int .i64 x.lo, .int .i64 40] w' fun e w2 => e = .returned (.int .i64 (Hx.pickN x.lo 40 : Int)) ∧ w' = w2) := fun w' => (pick_any x.lo 40 w' q1 q2 (by omega) (by omega)).mono (fun e w2 h => ⟨h.1, h.2.symm⟩)
          have HP2 : Hid (∀ w', Calls Tryd.prog 15 #[.int .i64 x.more, .int .i64 20] w' fun e w2 => e = .returned (.int .i64 (Hx.pickN x.more 20 : Int)) ∧ w' = w2) := fun w' => (pick_any x.more 20 w' q3 q4 (by omega) (by omega)).mono (fun e w2 h => ⟨h.1, h.2.symm⟩)
          have HP3 : Hid (∀ w', Calls Tryd.prog 15 #[.int .i64 x.rest, .int .i64 2] w' fun e w2 => e = .returned (.int .i64 (Hx.pickN x.rest 2 : Int)) ∧ w' = w2) := fun w' => (pick_any x.rest 2 w' q5 q6 (by omega) (by omega)).mono (fun e w2 h => ⟨h.1, h.2.symm⟩)
          have HP4 : Hid (∀ w', Calls Tryd.prog 15 #[.int .i64 x.mn, .int .i64 40] w' fun e w2 => e = .returned (.int .i64 (Hx.pickN x.mn 40 : Int)) ∧ w' = w2) := fun w' => (pick_any x.mn 40 w' q7 q8 (by omega) (by omega)).mono (fun e w2 h => ⟨h.1, h.2.symm⟩)
          have HP5 : Hid (∀ w', Calls Tryd.prog 15 #[.int .i64 x.wide, .int .i64 80] w' fun e w2 => e = .returned (.int .i64 (Hx.pickN x.wide 80 : Int)) ∧ w' = w2) := fun w' => (pick_any x.wide 80 w' q9 q10 (by omega) (by omega)).mono (fun e w2 h => ⟨h.1, h.2.symm⟩)
          have l1 := Hx.pickN_lt x.lo (n := 40) (by omega)
          have l2 := Hx.pickN_lt x.more (n := 20) (by omega)
          have l3 := Hx.pickN_lt x.rest (n := 2) (by omega)
          have l4 := Hx.pickN_lt x.mn (n := 40) (by omega)
          have l5 := Hx.pickN_lt x.wide (n := 80) (by omega)
          generalize Hx.pickN x.lo 40 = k1 at HST HP1 l1
          generalize Hx.pickN x.more 20 = k2 at HST HP2 l2
          generalize Hx.pickN x.rest 2 = k3 at HRO HP3 l3
          generalize Hx.pickN x.mn 40 = k4 at HST HP4 l4
          generalize Hx.pickN x.wide 80 = k5 at HST HP5 l5
          generalize Hx.restOf i x = rr at HST HRO
          clear hrok q1 q2 q3 q4 q5 q6 q7 q8 q9 q10 hcells hx
          go_upto_region 12 with (go_at_call 15; refine (unhide HP1 _).mono ?_; rintro e w2 ⟨rfl, rfl⟩)
          obtain ⟨lo, hlo⟩ : ∃ lo, lo = 1 + k1 := ⟨_, rfl⟩
          have e1 : (1 : Int) + (k1 : Int) = (lo : Int) := by omega
          rw [e1]
          rw [← hlo] at HST
          have llo : lo ≤ 40 := by omega
          clear e1 hlo l1 x0 HP1 p3
          have HX := hide (bN #[.int .i64 (acc.length : Int), .int .i64 (i : Int), .int .i64 (lo : Int), .int .i64 0, .bool false, .int .i64 0, .int .i64 0] 39 (w := wr) rfl)
          have HIN1 := hide ((unhide HIN).alloc (.cells #[.int .i64 (acc.length : Int), .int .i64 (i : Int), .int .i64 (lo : Int), .int .i64 0, .bool false, .int .i64 0, .int .i64 0] 39))
          have hge : w.heap.size + 3 ≤ wr.heap.size := by have := lt_of_block (unhide HIN).pb; omega
          have HAP : Hid ((Value.slice vo LL.length vc).ownBlock ≠ some wr.heap.size) := fun e => by have := ((unhide HIN).ow.lt _ e).2; omega
          obtain ⟨xb, hxb⟩ : ∃ xb, xb = wr.heap.size := ⟨_, rfl⟩
          rw [← hxb] at HX hge HAP ⊢
          generalize wr.alloc (.cells #[.int .i64 (acc.length : Int), .int .i64 (i : Int), .int .i64 (lo : Int), .int .i64 0, .bool false, .int .i64 0, .int .i64 0] 39) = wx at HX HIN1 ⊢
          clear hxb HIN
          have z2 : wx.cell? ⟨xb, 2, none⟩ = some (.int .i64 (lo : Int)) := blk_cell (unhide HX) 2
          have z3 : wx.cell? ⟨xb, 3, none⟩ = some (.int .i64 0) := blk_cell (unhide HX) 3
          have zf := blk_free (unhide HX)
          have x1 : wx.cell? ⟨b2, o2 + (i * 5 + 1), none⟩ = some (.int .i64 x.more) := cell_below (unhide HIN1).be (Nat.le_refl _) (unhide HCE 1 (by omega))
          have x1' : wx.cell? ⟨b2, o2 + i * 5 + 1, none⟩ = some (.int .i64 x.more) := x1
          obtain ⟨hh, hhe⟩ : ∃ hh, hh = lo + k2 := ⟨_, rfl⟩
          rw [← hhe] at HST
          have hw12 : IntKind.i64.wrap ((lo : Int) + (k2 : Int)) = (hh : Int) := by
            rw [show (lo : Int) + (k2 : Int) = (hh : Int) by omega]
            exact IntWalk.i64_in _ ⟨by omega, by omega⟩
          have HW12 := hide hw12
          have lhh : hh < 1000 := by omega
          clear hw12 hhe
          go_cut [71] (fun s71 wc => wc.heap[xb]? = some (.cells #[.int .i64 (acc.length : Int), .int .i64 (i : Int), .int .i64 (lo : Int), .int .i64 (hh : Int), .bool false, .int .i64 0, .int .i64 0] 39 (0, 0)) ∧ InP w (shapeA sJ sK sD (.slice (some ⟨rb, ro, none⟩) qs.length cap)) J K1 D wc (.slice vo LL.length vc) LL)
          case first =>
            go_region_with ((go_at_call 15; refine (unhide HP2 _).mono ?_; rintro e w2 ⟨rfl, rfl⟩))
            all_goals
              go_wp2_with fail
              go_meet
              case rel =>
                rw [unhide HW12]
                refine ⟨?_, ?_⟩
                · exact bD (blk_set (unhide HX) 3 _)
                · exact ((unhide HIN1).setx hge (unhide HAP) 3 _).drew
          case rest =>
          obtain ⟨hxc, hinc⟩ := hcut
          have HXC := hide hxc
          have HINC := hide hinc
          clear hxc hinc z2 z3 zf x1 x1' HX HIN1 HP2 HW12
          have x2 : wc.cell? ⟨b2, o2 + (i * 5 + 2), none⟩ = some (.int .i64 x.rest) := cell_below (unhide HINC).be (Nat.le_refl _) (unhide HCE 2 (by omega))
          have x2' : wc.cell? ⟨b2, o2 + i * 5 + 2, none⟩ = some (.int .i64 x.rest) := x2
          by_cases hiz : i = 0
          · have hiI : ¬ (0 : Int) < (i : Int) := by omega
            have HRR : Hid (rr = false) := by show _ = _; rw [unhide HRO]; simp [hiz]
            clear hiz
            go_upto_region 17 with fail
            clear x2' x2
            have HY : Hid (PL[i]? = some ⟨lo, hh, false, 0, 0⟩) := by
              show _ = _
              rw [unhide HPX, unhide HST, unhide HRR]
              rfl
            have HLT2 := hide hlt2
            have hszw : w.heap.size + 3 ≤ wc.heap.size := by have := lt_of_block (unhide HXC); omega
            clear hml hqm h4 h9 hltI hpI hPlen g1 g3 l2 l3 l4 l5 llo lhh lJ lK lD hlt2 hiI hge HRAW HCE HPA HPS HSH2 HGA HN0 HAP HRO
            have y0 : wc.cell? ⟨xb, 0, none⟩ = some (.int .i64 (acc.length : Int)) := blk_cell (unhide HXC) 0
            have y1 : wc.cell? ⟨xb, 1, none⟩ = some (.int .i64 (i : Int)) := blk_cell (unhide HXC) 1
            have y2 : wc.cell? ⟨xb, 2, none⟩ = some (.int .i64 (lo : Int)) := blk_cell (unhide HXC) 2
            have y3 : wc.cell? ⟨xb, 3, none⟩ = some (.int .i64 (hh : Int)) := blk_cell (unhide HXC) 3
            have y4 : wc.cell? ⟨xb, 4, none⟩ = some (.bool false) := blk_cell (unhide HXC) 4
            have y5 : wc.cell? ⟨xb, 5, none⟩ = some (.int .i64 0) := blk_cell (unhide HXC) 5
            have y6 : wc.cell? ⟨xb, 6, none⟩ = some (.int .i64 0) := blk_cell (unhide HXC) 6
            have p3 : wc.cell? ⟨w.heap.size + 1 + 1, 3, none⟩ = some (.slice vo LL.length vc) := blk_cell (unhide HINC).pb 3
            go_wp2_with (at_builtin; refine wpList_append_own _ rfl _ _ 26 rfl (w.heap.size + 3) 39 i0 (.agg #[.int .i64 0, .int .i64 0, .int .i64 0, .int .i64 0, .bool false, .int .i64 0, .int .i64 0]) 7 56 Tryd.underlying26 (unhide HI) (unhide HZ0) (unhide HZ1) (unhide HZ2) rfl (by decide) _ _ _ rfl ((unhide HINC).ow.alloc _) ⟨wc.heap.size, 0, none⟩ 1 1 (kstCells ⟨acc.length, i, ⟨lo, hh, false, 0, 0⟩⟩) rfl rfl (news_new wc (kstCells ⟨acc.length, i, ⟨lo, hh, false, 0, 0⟩⟩) 39) (kstCells_one _) (by unfold maxLen; omega) (by omega) (by simp; omega) ?_; intro v' w90 hown' hgrow' _; obtain ⟨ao3, cap3, rfl⟩ := own_form hown'; have K9 := hide ((unhide HINC).app (y := ⟨acc.length, i, ⟨lo, hh, false, 0, 0⟩⟩) (o := .cells (kstCells ⟨acc.length, i, ⟨lo, hh, false, 0, 0⟩⟩).toArray 39) hown' hgrow'); have q3 : w90.cell? ⟨w.heap.size + 1 + 1, 3, none⟩ = some (.slice vo LL.length vc) := blk_cell (unhide K9).1 3; have qf := blk_free (unhide K9).1; clear hown' hgrow' p3)
            go_roundg (PL.length - (i + 1))
            case measure => have := unhide HLT2; omega
            case rel =>
              refine ⟨i + 1, .slice ao3 (LL.length + 1) cap3, by have := unhide HLT2; omega, rfl, by go_num, by go_num, ?_⟩
              rw [lab_take (unhide HY), ← List.append_assoc, ← unhide HLL]
              exact (unhide K9).2
          · have hiI : (0 : Int) < (i : Int) := by omega
            by_cases hk3 : k3 = 1
            · have hkI : ((k3 : Int) == 1) = true := by simp [hk3]
              have HRR : Hid (rr = true) := by show _ = _; rw [unhide HRO]; simp [hk3]; omega
              have z4 : wc.cell? ⟨xb, 4, none⟩ = some (.bool false) := blk_cell (unhide HXC) 4
              have zf := blk_free (unhide HXC)
              have HX14 : Hid ((wc.setCell ⟨xb, 4, none⟩ (.bool true)).heap[xb]? = some (.cells #[.int .i64 (acc.length : Int), .int .i64 (i : Int), .int .i64 (lo : Int), .int .i64 (hh : Int), .bool true, .int .i64 0, .int .i64 0] 39 (0, 0))) := blk_set (unhide HXC) 4 (.bool true)
              have HIN14 := hide ((unhide HINC).setx hge (unhide HAP) 4 (.bool true))
              clear hiz hk3
              go_upto_region 15 with (go_at_call 15; refine (unhide HP3 _).mono ?_; rintro e w2 ⟨rfl, rfl⟩)
              generalize wc.setCell ⟨xb, 4, none⟩ (.bool true) = w14 at HX14 HIN14 ⊢
              clear HXC HINC z4 zf x2' x2 HP3
              have z5 : w14.cell? ⟨xb, 5, none⟩ = some (.int .i64 0) := blk_cell (unhide HX14) 5
              have zf := blk_free (unhide HX14)
              have x3 : w14.cell? ⟨b2, o2 + (i * 5 + 3), none⟩ = some (.int .i64 x.mn) := cell_below (unhide HIN14).be (Nat.le_refl _) (unhide HCE 3 (by omega))
              have x3' : w14.cell? ⟨b2, o2 + i * 5 + 3, none⟩ = some (.int .i64 x.mn) := x3
              have HX15 : Hid ((w14.setCell ⟨xb, 5, none⟩ (.int .i64 (k4 : Int))).heap[xb]? = some (.cells #[.int .i64 (acc.length : Int), .int .i64 (i : Int), .int .i64 (lo : Int), .int .i64 (hh : Int), .bool true, .int .i64 (k4 : Int), .int .i64 0] 39 (0, 0))) := blk_set (unhide HX14) 5 (.int .i64 (k4 : Int))
              have HIN15 := hide ((unhide HIN14).setx hge (unhide HAP) 5 (.int .i64 (k4 : Int)))
              go_upto_region 16 with (go_at_call 15; refine (unhide HP4 _).mono ?_; rintro e w2 ⟨rfl, rfl⟩)
              generalize w14.setCell ⟨xb, 5, none⟩ (.int .i64 (k4 : Int)) = w15 at HX15 HIN15 ⊢
              clear HX14 HIN14 z5 zf x3 x3' HP4
              have z5 : w15.cell? ⟨xb, 5, none⟩ = some (.int .i64 (k4 : Int)) := blk_cell (unhide HX15) 5
              have z6 : w15.cell? ⟨xb, 6, none⟩ = some (.int .i64 0) := blk_cell (unhide HX15) 6
              have zf := blk_free (unhide HX15)
              have x4 : w15.cell? ⟨b2, o2 + (i * 5 + 4), none⟩ = some (.int .i64 x.wide) := cell_below (unhide HIN15).be (Nat.le_refl _) (unhide HCE 4 (by omega))
              have x4' : w15.cell? ⟨b2, o2 + i * 5 + 4, none⟩ = some (.int .i64 x.wide) := x4
              obtain ⟨mm, hme⟩ : ∃ mm, mm = k4 + k5 := ⟨_, rfl⟩
              rw [← hme] at HST
              have hw16 : IntKind.i64.wrap ((k4 : Int) + (k5 : Int)) = (mm : Int) := by
                rw [show (k4 : Int) + (k5 : Int) = (mm : Int) by omega]
                exact IntWalk.i64_in _ ⟨by omega, by omega⟩
              have HW16 := hide hw16
              clear hw16 hme
              go_cut [100] (fun s100 wc => wc.heap[xb]? = some (.cells #[.int .i64 (acc.length : Int), .int .i64 (i : Int), .int .i64 (lo : Int), .int .i64 (hh : Int), .bool true, .int .i64 (k4 : Int), .int .i64 (mm : Int)] 39 (0, 0)) ∧ InP w (shapeA sJ sK sD (.slice (some ⟨rb, ro, none⟩) qs.length cap)) J K1 D wc (.slice vo LL.length vc) LL)
              case first =>
                go_region_with ((go_at_call 15; refine (unhide HP5 _).mono ?_; rintro e w2 ⟨rfl, rfl⟩))
                all_goals
                  go_wp2_with fail
                  go_meet
                  case rel =>
                    rw [unhide HW16]
                    refine ⟨?_, ?_⟩
                    · exact bD (blk_set (unhide HX15) 6 _)
                    · exact ((unhide HIN15).setx hge (unhide HAP) 6 _).drew
              case rest =>
              obtain ⟨hxc, hinc⟩ := hcut
              have HXC := hide hxc
              have HINC := hide hinc
              clear hxc hinc z5 z6 zf x4 x4' HX15 HIN15 HP5 HW16
              go_upto_region 17 with fail
              have HY : Hid (PL[i]? = some ⟨lo, hh, true, k4, mm⟩) := by
                show _ = _
                rw [unhide HPX, unhide HST, unhide HRR]
                rfl
              have HLT2 := hide hlt2
              have hszw : w.heap.size + 3 ≤ wc.heap.size := by have := lt_of_block (unhide HXC); omega
              clear hml hqm h4 h9 hltI hpI hPlen g1 g3 l2 l3 l4 l5 llo lhh lJ lK lD hlt2 hiI hge HRAW HCE HPA HPS HSH2 HGA HN0 HAP HRO
              have y0 : wc.cell? ⟨xb, 0, none⟩ = some (.int .i64 (acc.length : Int)) := blk_cell (unhide HXC) 0
              have y1 : wc.cell? ⟨xb, 1, none⟩ = some (.int .i64 (i : Int)) := blk_cell (unhide HXC) 1
              have y2 : wc.cell? ⟨xb, 2, none⟩ = some (.int .i64 (lo : Int)) := blk_cell (unhide HXC) 2
              have y3 : wc.cell? ⟨xb, 3, none⟩ = some (.int .i64 (hh : Int)) := blk_cell (unhide HXC) 3
              have y4 : wc.cell? ⟨xb, 4, none⟩ = some (.bool true) := blk_cell (unhide HXC) 4
              have y5 : wc.cell? ⟨xb, 5, none⟩ = some (.int .i64 (k4 : Int)) := blk_cell (unhide HXC) 5
              have y6 : wc.cell? ⟨xb, 6, none⟩ = some (.int .i64 (mm : Int)) := blk_cell (unhide HXC) 6
              have p3 : wc.cell? ⟨w.heap.size + 1 + 1, 3, none⟩ = some (.slice vo LL.length vc) := blk_cell (unhide HINC).pb 3
              go_wp2_with (at_builtin; refine wpList_append_own _ rfl _ _ 26 rfl (w.heap.size + 3) 39 i0 (.agg #[.int .i64 0, .int .i64 0, .int .i64 0, .int .i64 0, .bool false, .int .i64 0, .int .i64 0]) 7 56 Tryd.underlying26 (unhide HI) (unhide HZ0) (unhide HZ1) (unhide HZ2) rfl (by decide) _ _ _ rfl ((unhide HINC).ow.alloc _) ⟨wc.heap.size, 0, none⟩ 1 1 (kstCells ⟨acc.length, i, ⟨lo, hh, true, k4, mm⟩⟩) rfl rfl (news_new wc (kstCells ⟨acc.length, i, ⟨lo, hh, true, k4, mm⟩⟩) 39) (kstCells_one _) (by unfold maxLen; omega) (by omega) (by simp; omega) ?_; intro v' w90 hown' hgrow' _; obtain ⟨ao3, cap3, rfl⟩ := own_form hown'; have K9 := hide ((unhide HINC).app (y := ⟨acc.length, i, ⟨lo, hh, true, k4, mm⟩⟩) (o := .cells (kstCells ⟨acc.length, i, ⟨lo, hh, true, k4, mm⟩⟩).toArray 39) hown' hgrow'); have q3 : w90.cell? ⟨w.heap.size + 1 + 1, 3, none⟩ = some (.slice vo LL.length vc) := blk_cell (unhide K9).1 3; have qf := blk_free (unhide K9).1; clear hown' hgrow' p3)
              go_roundg (PL.length - (i + 1))
              case measure => have := unhide HLT2; omega
              case rel =>
                refine ⟨i + 1, .slice ao3 (LL.length + 1) cap3, by have := unhide HLT2; omega, rfl, by go_num, by go_num, ?_⟩
                rw [lab_take (unhide HY), ← List.append_assoc, ← unhide HLL]
                exact (unhide K9).2
            · have hkI : ((k3 : Int) == 1) = false := by simp; omega
              have HRR : Hid (rr = false) := by show _ = _; rw [unhide HRO]; simp [hk3]
              clear hiz hk3
              go_upto_region 17 with (go_at_call 15; refine (unhide HP3 _).mono ?_; rintro e w2 ⟨rfl, rfl⟩)
              clear x2' x2
              have HY : Hid (PL[i]? = some ⟨lo, hh, false, 0, 0⟩) := by
                show _ = _
                rw [unhide HPX, unhide HST, unhide HRR]
                rfl
              have HLT2 := hide hlt2
              have hszw : w.heap.size + 3 ≤ wc.heap.size := by have := lt_of_block (unhide HXC); omega
              clear hml hqm h4 h9 hltI hpI hPlen g1 g3 l2 l3 l4 l5 llo lhh lJ lK lD hlt2 hiI hge HRAW HCE HPA HPS HSH2 HGA HN0 HAP HRO
              have y0 : wc.cell? ⟨xb, 0, none⟩ = some (.int .i64 (acc.length : Int)) := blk_cell (unhide HXC) 0
              have y1 : wc.cell? ⟨xb, 1, none⟩ = some (.int .i64 (i : Int)) := blk_cell (unhide HXC) 1
              have y2 : wc.cell? ⟨xb, 2, none⟩ = some (.int .i64 (lo : Int)) := blk_cell (unhide HXC) 2
              have y3 : wc.cell? ⟨xb, 3, none⟩ = some (.int .i64 (hh : Int)) := blk_cell (unhide HXC) 3
              have y4 : wc.cell? ⟨xb, 4, none⟩ = some (.bool false) := blk_cell (unhide HXC) 4
              have y5 : wc.cell? ⟨xb, 5, none⟩ = some (.int .i64 0) := blk_cell (unhide HXC) 5
              have y6 : wc.cell? ⟨xb, 6, none⟩ = some (.int .i64 0) := blk_cell (unhide HXC) 6
              have p3 : wc.cell? ⟨w.heap.size + 1 + 1, 3, none⟩ = some (.slice vo LL.length vc) := blk_cell (unhide HINC).pb 3
              go_wp2_with (at_builtin; refine wpList_append_own _ rfl _ _ 26 rfl (w.heap.size + 3) 39 i0 (.agg #[.int .i64 0, .int .i64 0, .int .i64 0, .int .i64 0, .bool false, .int .i64 0, .int .i64 0]) 7 56 Tryd.underlying26 (unhide HI) (unhide HZ0) (unhide HZ1) (unhide HZ2) rfl (by decide) _ _ _ rfl ((unhide HINC).ow.alloc _) ⟨wc.heap.size, 0, none⟩ 1 1 (kstCells ⟨acc.length, i, ⟨lo, hh, false, 0, 0⟩⟩) rfl rfl (news_new wc (kstCells ⟨acc.length, i, ⟨lo, hh, false, 0, 0⟩⟩) 39) (kstCells_one _) (by unfold maxLen; omega) (by omega) (by simp; omega) ?_; intro v' w90 hown' hgrow' _; obtain ⟨ao3, cap3, rfl⟩ := own_form hown'; have K9 := hide ((unhide HINC).app (y := ⟨acc.length, i, ⟨lo, hh, false, 0, 0⟩⟩) (o := .cells (kstCells ⟨acc.length, i, ⟨lo, hh, false, 0, 0⟩⟩).toArray 39) hown' hgrow'); have q3 : w90.cell? ⟨w.heap.size + 1 + 1, 3, none⟩ = some (.slice vo LL.length vc) := blk_cell (unhide K9).1 3; have qf := blk_free (unhide K9).1; clear hown' hgrow' p3)
              go_roundg (PL.length - (i + 1))
              case measure => have := unhide HLT2; omega
              case rel =>
                refine ⟨i + 1, .slice ao3 (LL.length + 1) cap3, by have := unhide HLT2; omega, rfl, by go_num, by go_num, ?_⟩
                rw [lab_take (unhide HY), ← List.append_assoc, ← unhide HLL]
                exact (unhide K9).2
        · have hPi : i = PL.length := by omega
          have hLi := unhide HLN
          have HEX : Hid ((PL = [] → Hx.GoodA acc ∧ Hx.shapeF (qs.drop (a + 1)) acc = Hx.shapeF qs [] ∧ LL = Hx.labs acc) ∧ (PL ≠ [] → Hx.GoodA (acc ++ [PL]) ∧ Hx.shapeF (qs.drop (a + 1)) (acc ++ [PL]) = Hx.shapeF qs [] ∧ LL = Hx.labs (acc ++ [PL]))) := by
            have hs := unhide HSH2
            refine ⟨fun h => ⟨unhide HGA, by rw [if_pos h] at hs; exact hs, ?_⟩, fun h => ⟨unhide HPS h, by rw [if_neg h] at hs; exact hs, ?_⟩⟩
            · rw [unhide HLL, h, List.take_nil, Hx.lab_nil, List.append_nil]
            · rw [unhide HLL, hPi, List.take_length, Hx.labs_snoc]
          clear HSH2 HPA HPS HGA HLL
          have hcase : ¬ (i : Int) < (q.length : Int) ∨ ((i : Int) < (q.length : Int) ∧ ¬ (i : Int) < 5) ∨ ((i : Int) < (q.length : Int) ∧ (i : Int) < 5 ∧ ¬ (LL.length : Int) < 9) := by omega
          by_cases hiz : i = 0
          · have hnil : PL = [] := List.length_eq_zero_iff.1 (by omega)
            obtain ⟨x1, x2, x3⟩ := (unhide HEX).1 hnil
            have hiI : ¬ (0 : Int) < (i : Int) := by omega
            have HX2 := hide x2
            have HX1 := hide x1
            rw [x3] at HIN p3 hcase
            clear hLi HEX x1 x2 x3 hnil hiz hlt2 hl9 HLN hPlen hPi hi HRAW
            go_upto_region 9 with fail
            go_cut [50] (fun s50 wc => s50 = .bool false ∧ InP w (shapeA sJ sK sD (.slice (some ⟨rb, ro, none⟩) qs.length cap)) J K1 D wc (.slice vo (Hx.labs (acc)).length vc) (Hx.labs (acc)))
            case first =>
              rcases hcase with hc1 | ⟨hc1, hc2⟩ | ⟨hc1, hc2, hc3⟩
              all_goals
                go_wp2_with fail
              all_goals
                go_meet
                case rel => exact ⟨rfl, unhide HIN⟩
            case rest =>
            obtain ⟨rfl, hin⟩ := hcut
            have HINC := hide hin
            clear hin HIN p3 hcase
            go_wp2_with fail
            go_roundg (qs.length - (a + 1))
            case measure => omega
            case rel => exact ⟨a + 1, acc, _, by omega, rfl, by go_num, rfl, unhide HX1, unhide HX2, unhide HINC⟩
          · have hne : PL ≠ [] := fun h => hiz (by rw [hPi, h]; rfl)
            obtain ⟨x1, x2, x3⟩ := (unhide HEX).2 hne
            have hiI : (0 : Int) < (i : Int) := by omega
            have HX2 := hide x2
            have HX1 := hide x1
            rw [x3] at HIN p3 hcase
            clear hLi HEX x1 x2 x3 hne hiz hlt2 hl9 HLN hPlen hPi hi HRAW
            go_upto_region 9 with fail
            go_cut [50] (fun s50 wc => s50 = .bool false ∧ InP w (shapeA sJ sK sD (.slice (some ⟨rb, ro, none⟩) qs.length cap)) J K1 D wc (.slice vo (Hx.labs (acc ++ [PL])).length vc) (Hx.labs (acc ++ [PL])))
            case first =>
              rcases hcase with hc1 | ⟨hc1, hc2⟩ | ⟨hc1, hc2, hc3⟩
              all_goals
                go_wp2_with fail
              all_goals
                go_meet
                case rel => exact ⟨rfl, unhide HIN⟩
            case rest =>
            obtain ⟨rfl, hin⟩ := hcut
            have HINC := hide hin
            clear hin HIN p3 hcase
            go_wp2_with fail
            go_roundg (qs.length - (a + 1))
            case measure => omega
            case rel => exact ⟨a + 1, acc ++ [PL], _, by omega, rfl, by go_num, by rw [List.length_append]; go_num, unhide HX1, unhide HX2, unhide HINC⟩
    · have hfin : Hx.shapeF qs [] = acc := by
        rw [← unhide HSH]
        by_cases hlt : a < qs.length
        · have hp : ¬ acc.length < 4 := fun g => hgo ⟨hlt, g⟩
          rw [List.drop_eq_getElem_cons hlt, Hx.shapeF, if_neg hp]
        · rw [List.drop_eq_nil_of_le (by omega)]; rfl
      have hcase : ¬ (a : Int) < (qs.length : Int) ∨ ((a : Int) < (qs.length : Int) ∧ ¬ (acc.length : Int) < 4) := by omega
      by_cases hz : (Hx.labs acc).length = 0
      · have hnil : acc = [] := by
          cases hc : acc with
          | nil => rfl
          | cons q r =>
            exfalso
            obtain ⟨x, l, e, _⟩ := (unhide HGA).head q (by rw [hc]; simp)
            rw [hc, e, Hx.labs_len] at hz
            simp at hz
        have HSP : Hid (Hx.labs (Hx.shapeP qs) = Hx.labs acc ++ [⟨0, 0, ⟨1, 1, false, 0, 0⟩⟩]) := by
          show _ = _
          unfold Hx.shapeP
          rw [hfin, if_pos hnil, hnil]
          rfl
        obtain ⟨LL, hLL⟩ : ∃ LL, LL = Hx.labs acc := ⟨_, rfl⟩
        rw [← hLL] at HIN HSP hz
        have hzI : ((LL.length : Int) == 0) = true := by simp [hz]
        have hl9 : LL.length ≤ 9 := by omega
        clear hfin hz hLL h9 hgo h4 hml lJ lK lD hnil
        go_upto_region 4 with fail
        go_cut [29] (fun s29 wc => s29 = .bool false ∧ InP w (shapeA sJ sK sD (.slice ao qs.length cap)) J K1 D wc (.slice vo LL.length vc) LL)
        case first =>
          rcases hcase with hc1 | ⟨hc1, hc2⟩
          all_goals
            go_wp2_with fail
            go_meet
            case rel => exact ⟨rfl, unhide HIN⟩
        case rest =>
        obtain ⟨rfl, hin⟩ := hcut
        have HINC := hide hin
        clear hin HIN c3 hcase
        have p3 : wc.cell? ⟨w.heap.size + 1 + 1, 3, none⟩ = some (.slice vo LL.length vc) := blk_cell (unhide HINC).pb 3
        have hszw : w.heap.size + 3 ≤ wc.heap.size := by have := lt_of_block (unhide HINC).pb; omega
        go_upto_region 23 with (at_builtin; refine wpList_append_own _ rfl _ _ 26 rfl (w.heap.size + 3) 39 i0 (.agg #[.int .i64 0, .int .i64 0, .int .i64 0, .int .i64 0, .bool false, .int .i64 0, .int .i64 0]) 7 56 Tryd.underlying26 (unhide HI) (unhide HZ0) (unhide HZ1) (unhide HZ2) rfl (by decide) _ _ _ rfl ((unhide HINC).ow.alloc _) ⟨wc.heap.size, 0, none⟩ 1 1 (kstCells ⟨0, 0, ⟨1, 1, false, 0, 0⟩⟩) rfl rfl (news_new wc (kstCells ⟨0, 0, ⟨1, 1, false, 0, 0⟩⟩) 39) (kstCells_one _) (by unfold maxLen; omega) (by omega) (by simp; omega) ?_; intro v' w90 hown' hgrow' _; obtain ⟨ao3, cap3, rfl⟩ := own_form hown'; have K9 := hide ((unhide HINC).app (y := ⟨0, 0, ⟨1, 1, false, 0, 0⟩⟩) (o := .cells (kstCells ⟨0, 0, ⟨1, 1, false, 0, 0⟩⟩).toArray 39) hown' hgrow'); have q3 : w90.cell? ⟨w.heap.size + 1 + 1, 3, none⟩ = some (.slice vo LL.length vc) := blk_cell (unhide K9).1 3; have qf := blk_free (unhide K9).1; clear hown' hgrow' p3)
        have HIN5 := hide (unhide K9).2
        clear K9 q3 qf HINC
        generalize w90.setCell ⟨w.heap.size + 1 + 1, 3, none⟩ (.slice ao3 (LL.length + 1) cap3) = W5 at HIN5 ⊢
        have p0 : W5.cell? ⟨w.heap.size + 1 + 1, 0, none⟩ = some (.int .i64 (J : Int)) := blk_cell (unhide HIN5).pb 0
        have p1 : W5.cell? ⟨w.heap.size + 1 + 1, 1, none⟩ = some (.int .i64 (K1 : Int)) := blk_cell (unhide HIN5).pb 1
        have p2 : W5.cell? ⟨w.heap.size + 1 + 1, 2, none⟩ = some (.int .i64 (D : Int)) := blk_cell (unhide HIN5).pb 2
        have p3 : W5.cell? ⟨w.heap.size + 1 + 1, 3, none⟩ = some (.slice ao3 (LL.length + 1) cap3) := blk_cell (unhide HIN5).pb 3
        have r0 : W5.cell? ⟨w.heap.size + 1, 0, none⟩ = some (.int .i64 0) := blk_cell (unhide HIN5).rb 0
        have r1 : W5.cell? ⟨w.heap.size + 1, 1, none⟩ = some (.int .i64 0) := blk_cell (unhide HIN5).rb 1
        have r2 : W5.cell? ⟨w.heap.size + 1, 2, none⟩ = some (.int .i64 0) := blk_cell (unhide HIN5).rb 2
        have r3 : W5.cell? ⟨w.heap.size + 1, 3, none⟩ = some (.slice none 0 0) := blk_cell (unhide HIN5).rb 3
        have rf := blk_free (unhide HIN5).rb
        have HW4 : Hid (((((W5.setCell ⟨w.heap.size + 1, 0, none⟩ (.int .i64 (J : Int))).setCell ⟨w.heap.size + 1, 1, none⟩ (.int .i64 (K1 : Int))).setCell ⟨w.heap.size + 1, 2, none⟩ (.int .i64 (D : Int))).setCell ⟨w.heap.size + 1, 3, none⟩ (.slice ao3 (LL.length + 1) cap3)).heap[w.heap.size + 1]? = some (.cells #[.int .i64 (J : Int), .int .i64 (K1 : Int), .int .i64 (D : Int), .slice ao3 (LL.length + 1) cap3] 28 (0, 0))) := blk_set (blk_set (blk_set (blk_set (unhide HIN5).rb 0 (.int .i64 (J : Int))) 1 (.int .i64 (K1 : Int))) 2 (.int .i64 (D : Int))) 3 (.slice ao3 (LL.length + 1) cap3)
        have HRES : Hid (((((W5.setCell ⟨w.heap.size + 1, 0, none⟩ (.int .i64 (J : Int))).setCell ⟨w.heap.size + 1, 1, none⟩ (.int .i64 (K1 : Int))).setCell ⟨w.heap.size + 1, 2, none⟩ (.int .i64 (D : Int))).setCell ⟨w.heap.size + 1, 3, none⟩ (.slice ao3 (LL.length + 1) cap3)).ownsRow 0 39 7 (.slice ao3 (LL.length + 1) cap3) (LL ++ [(⟨0, 0, ⟨1, 1, false, 0, 0⟩⟩ : Hx.Lst)]).length (ksCells (LL ++ [(⟨0, 0, ⟨1, 1, false, 0, 0⟩⟩ : Hx.Lst)])) ∧ Below w.heap.size w ((((W5.setCell ⟨w.heap.size + 1, 0, none⟩ (.int .i64 (J : Int))).setCell ⟨w.heap.size + 1, 1, none⟩ (.int .i64 (K1 : Int))).setCell ⟨w.heap.size + 1, 2, none⟩ (.int .i64 (D : Int))).setCell ⟨w.heap.size + 1, 3, none⟩ (.slice ao3 (LL.length + 1) cap3))) := by
          have hne : (.slice ao3 (LL.length + 1) cap3 : Value).ownBlock ≠ some (w.heap.size + 1) := fun e => by have := ((unhide HIN5).ow.lt _ e).1; omega
          exact ⟨own_mono ((((unhide HIN5).ow.kept (grown_set _ _ 0 _) (Or.inr hne)).kept (grown_set _ _ 1 _) (Or.inr hne)).kept (grown_set _ _ 2 _) (Or.inr hne) |>.kept (grown_set _ _ 3 _) (Or.inr hne)) (Nat.zero_le _), ((((unhide HIN5).be.setCell (by show _ ≤ w.heap.size + 1; omega) _).setCell (by show _ ≤ w.heap.size + 1; omega) _).setCell (by show _ ≤ w.heap.size + 1; omega) _).setCell (by show _ ≤ w.heap.size + 1; omega) _⟩
        go_wp2_with fail
        generalize ((((W5.setCell ⟨w.heap.size + 1, 0, none⟩ (.int .i64 (J : Int))).setCell ⟨w.heap.size + 1, 1, none⟩ (.int .i64 (K1 : Int))).setCell ⟨w.heap.size + 1, 2, none⟩ (.int .i64 (D : Int))).setCell ⟨w.heap.size + 1, 3, none⟩ (.slice ao3 (LL.length + 1) cap3)) = W4 at HRES HW4 ⊢
        have e0 : W4.cell? ⟨w.heap.size + 1, 0, none⟩ = some (.int .i64 (J : Int)) := blk_cell (unhide HW4) 0
        have e1 : W4.cell? ⟨w.heap.size + 1, 1, none⟩ = some (.int .i64 (K1 : Int)) := blk_cell (unhide HW4) 1
        have e2 : W4.cell? ⟨w.heap.size + 1, 2, none⟩ = some (.int .i64 (D : Int)) := blk_cell (unhide HW4) 2
        have e3 : W4.cell? ⟨w.heap.size + 1, 3, none⟩ = some (.slice ao3 (LL.length + 1) cap3) := blk_cell (unhide HW4) 3
        refine bodyPost_ret (v := planV J K1 D (.slice ao3 (LL.length + 1) cap3)) (by simp [results, Tryd.results12, go_sem, e0, e1, e2, e3]) rfl ?_
        refine ⟨_, rfl, ?_⟩
        rw [unhide HSP]
        exact unhide HRES
      · have hzI : (((Hx.labs acc).length : Int) == 0) = false := by rw [beq_eq_false_iff_ne]; omega
        have HSP : Hid (Hx.shapeP qs = acc) := by
          show _ = _
          unfold Hx.shapeP
          rw [hfin, if_neg (fun e => hz (by rw [e]; rfl))]
        obtain ⟨LL, hLL⟩ : ∃ LL, LL = Hx.labs acc := ⟨_, rfl⟩
        rw [← hLL] at hzI HIN
        have HLL := hide hLL
        clear hfin hz hLL h9 hgo h4 hml lJ lK lD
        go_upto_region 4 with fail
        go_cut [29] (fun s29 wc => s29 = .bool false ∧ InP w (shapeA sJ sK sD (.slice ao qs.length cap)) J K1 D wc (.slice vo LL.length vc) LL)
        case first =>
          rcases hcase with hc1 | ⟨hc1, hc2⟩
          all_goals
            go_wp2_with fail
            go_meet
            case rel => exact ⟨rfl, unhide HIN⟩
        case rest =>
        obtain ⟨rfl, hin⟩ := hcut
        have HINC := hide hin
        clear hin HIN c3 hcase
        have p0 : wc.cell? ⟨w.heap.size + 1 + 1, 0, none⟩ = some (.int .i64 (J : Int)) := blk_cell (unhide HINC).pb 0
        have p1 : wc.cell? ⟨w.heap.size + 1 + 1, 1, none⟩ = some (.int .i64 (K1 : Int)) := blk_cell (unhide HINC).pb 1
        have p2 : wc.cell? ⟨w.heap.size + 1 + 1, 2, none⟩ = some (.int .i64 (D : Int)) := blk_cell (unhide HINC).pb 2
        have p3 : wc.cell? ⟨w.heap.size + 1 + 1, 3, none⟩ = some (.slice vo LL.length vc) := blk_cell (unhide HINC).pb 3
        have r0 : wc.cell? ⟨w.heap.size + 1, 0, none⟩ = some (.int .i64 0) := blk_cell (unhide HINC).rb 0
        have r1 : wc.cell? ⟨w.heap.size + 1, 1, none⟩ = some (.int .i64 0) := blk_cell (unhide HINC).rb 1
        have r2 : wc.cell? ⟨w.heap.size + 1, 2, none⟩ = some (.int .i64 0) := blk_cell (unhide HINC).rb 2
        have r3 : wc.cell? ⟨w.heap.size + 1, 3, none⟩ = some (.slice none 0 0) := blk_cell (unhide HINC).rb 3
        have rf := blk_free (unhide HINC).rb
        have HW4 : Hid (((((wc.setCell ⟨w.heap.size + 1, 0, none⟩ (.int .i64 (J : Int))).setCell ⟨w.heap.size + 1, 1, none⟩ (.int .i64 (K1 : Int))).setCell ⟨w.heap.size + 1, 2, none⟩ (.int .i64 (D : Int))).setCell ⟨w.heap.size + 1, 3, none⟩ (.slice vo LL.length vc)).heap[w.heap.size + 1]? = some (.cells #[.int .i64 (J : Int), .int .i64 (K1 : Int), .int .i64 (D : Int), .slice vo LL.length vc] 28 (0, 0))) := blk_set (blk_set (blk_set (blk_set (unhide HINC).rb 0 (.int .i64 (J : Int))) 1 (.int .i64 (K1 : Int))) 2 (.int .i64 (D : Int))) 3 (.slice vo LL.length vc)
        have HRES : Hid (((((wc.setCell ⟨w.heap.size + 1, 0, none⟩ (.int .i64 (J : Int))).setCell ⟨w.heap.size + 1, 1, none⟩ (.int .i64 (K1 : Int))).setCell ⟨w.heap.size + 1, 2, none⟩ (.int .i64 (D : Int))).setCell ⟨w.heap.size + 1, 3, none⟩ (.slice vo LL.length vc)).ownsRow 0 39 7 (.slice vo LL.length vc) (LL).length (ksCells (LL)) ∧ Below w.heap.size w ((((wc.setCell ⟨w.heap.size + 1, 0, none⟩ (.int .i64 (J : Int))).setCell ⟨w.heap.size + 1, 1, none⟩ (.int .i64 (K1 : Int))).setCell ⟨w.heap.size + 1, 2, none⟩ (.int .i64 (D : Int))).setCell ⟨w.heap.size + 1, 3, none⟩ (.slice vo LL.length vc))) := by
          have hne : (.slice vo LL.length vc : Value).ownBlock ≠ some (w.heap.size + 1) := fun e => by have := ((unhide HINC).ow.lt _ e).1; omega
          exact ⟨own_mono ((((unhide HINC).ow.kept (grown_set _ _ 0 _) (Or.inr hne)).kept (grown_set _ _ 1 _) (Or.inr hne)).kept (grown_set _ _ 2 _) (Or.inr hne) |>.kept (grown_set _ _ 3 _) (Or.inr hne)) (Nat.zero_le _), ((((unhide HINC).be.setCell (by show _ ≤ w.heap.size + 1; omega) _).setCell (by show _ ≤ w.heap.size + 1; omega) _).setCell (by show _ ≤ w.heap.size + 1; omega) _).setCell (by show _ ≤ w.heap.size + 1; omega) _⟩
        go_wp2_with fail
        generalize ((((wc.setCell ⟨w.heap.size + 1, 0, none⟩ (.int .i64 (J : Int))).setCell ⟨w.heap.size + 1, 1, none⟩ (.int .i64 (K1 : Int))).setCell ⟨w.heap.size + 1, 2, none⟩ (.int .i64 (D : Int))).setCell ⟨w.heap.size + 1, 3, none⟩ (.slice vo LL.length vc)) = W4 at HRES HW4 ⊢
        have e0 : W4.cell? ⟨w.heap.size + 1, 0, none⟩ = some (.int .i64 (J : Int)) := blk_cell (unhide HW4) 0
        have e1 : W4.cell? ⟨w.heap.size + 1, 1, none⟩ = some (.int .i64 (K1 : Int)) := blk_cell (unhide HW4) 1
        have e2 : W4.cell? ⟨w.heap.size + 1, 2, none⟩ = some (.int .i64 (D : Int)) := blk_cell (unhide HW4) 2
        have e3 : W4.cell? ⟨w.heap.size + 1, 3, none⟩ = some (.slice vo LL.length vc) := blk_cell (unhide HW4) 3
        refine bodyPost_ret (v := planV J K1 D (.slice vo LL.length vc)) (by simp [results, Tryd.results12, go_sem, e0, e1, e2, e3]) rfl ?_
        refine ⟨_, rfl, ?_⟩
        rw [unhide HSP, ← unhide HLL]
        exact unhide HRES
end Go.Proofs.YtppcnlkhdgmaiaaDoor
