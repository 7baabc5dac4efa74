/- What hasTooMany does, and the program's Check: its error and its place are those of the plain reading. -/
import Derived.Test.YtppcnlkhdgmaiaaGreatDoorRdF
namespace Go.Proofs.YtppcnlkhdgmaiaaGreatDoor
open Go.RowKit

theorem any_take {ps : List (List Hx.Stp)} {k : Nat} {p : List Hx.Stp} (hp : ps[k]? = some p) : (ps.take (k + 1)).any (fun p => decide (5 < p.length)) = ((ps.take k).any (fun p => decide (5 < p.length)) || decide (5 < p.length)) := by
  rw [List.take_add_one, hp]; simp [List.any_append]
theorem many_hit {ps : List (List Hx.Stp)} {k : Nat} {p : List Hx.Stp} (hp : ps[k]? = some p) (h : 5 < p.length) : Hx.manyB ps = true := by
  have : ps.any (fun p => decide (5 < p.length)) = true := List.any_eq_true.2 ⟨p, List.mem_of_getElem? hp, by simpa using h⟩
  simp [Hx.manyB, this]
theorem many_end {ps : List (List Hx.Stp)} (h : ∀ p ∈ ps, p.length ≤ 5) : Hx.manyB ps = (decide (4 < ps.length) || decide (9 < ps.flatten.length)) := by
  have : ps.any (fun p => decide (5 < p.length)) = false := by
    rw [List.any_eq_false]
    intro p hp
    have := h p hp
    simpa using this
  rw [Hx.manyB, this, Bool.false_or]

set_option maxHeartbeats 2000000 in
theorem many_any (J K D : Nat) (v : Value) (base : Nat) (ps : List (List Hx.Stp)) (w : World) (hps : Plts w base v ps) (hn : 0 < ps.length) (hl : ps.length ≤ 121) (hne : ∀ p ∈ ps, 0 < p.length) :
    Calls Tryz.prog 42 #[.agg #[.int .i64 (J : Int), .int .i64 (K : Int), .int .i64 (D : Int), v]] w fun e w' => e = .returned (.bool (Hx.manyB ps)) ∧ Below w.heap.size w w' := by
  obtain ⟨vs, hvs, hpp⟩ := hps
  obtain ⟨g, cap, rfl, _, hg⟩ := own_pos hvs hn
  have HFL : Hid (∀ k, (ps.take k).flatten.length ≤ k * 121) := fun k => flat_le (fun p hp => by
    obtain ⟨i, hi⟩ := List.getElem?_of_mem hp
    obtain ⟨_, _, _, h⟩ := hpp i p hi
    exact h) k
  have HVS := hide hvs
  have HPP := hide hpp
  have HNE := hide hne
  clear hvs hpp hne
  go_enter Tryz.func42, Tryz.ntmps42
  go_wp2_with fail
  go_loopg [3, 9] ps.length (fun gk num i wr => ∃ k : Nat, k ≤ ps.length ∧ gk = ps.length - k ∧ i = .int .i64 (k : Int) ∧ num = .int .i64 (((ps.take k).flatten.length : Nat) : Int) ∧ (∀ p ∈ ps.take k, p.length ≤ 5) ∧ Below w.heap.size w wr ∧ wr.heap[w.heap.size]? = some (.cells #[.int .i64 (J : Int), .int .i64 (K : Int), .int .i64 (D : Int), .slice (some ⟨g, 0, none⟩) ps.length cap] 44 (0, 0)))
  case atStart => exact ⟨0, Nat.zero_le _, rfl, rfl, rfl, by simp, (Below.refl _ _).alloc (Nat.le_refl _) _, blk_new _ _ _⟩
  case round =>
    obtain ⟨k, hk, rfl, rfl, rfl, hall, hbe, hbox⟩ := hrel
    have HALL := hide hall
    have HBE := hide hbe
    have b3 : wr.cell? ⟨w.heap.size, 3, none⟩ = some (.slice (some ⟨g, 0, none⟩) ps.length cap) := blk_cell hbox 3
    have HBOX := hide hbox
    clear hall hbe hbox
    have hfk := unhide HFL k
    obtain ⟨c, hc⟩ : ∃ c, c = (ps.take k).flatten.length := ⟨_, rfl⟩
    rw [← hc]
    rw [← hc] at hfk
    have HC := hide hc
    clear hc
    by_cases hlt : k < ps.length
    · obtain ⟨p, hp⟩ : ∃ p, ps[k]? = some p := ⟨ps[k], List.getElem?_eq_getElem hlt⟩
      obtain ⟨u, hu, hou, hp121⟩ := unhide HPP k p hp
      have hp0 : 0 < p.length := unhide HNE p (List.mem_of_getElem? hp)
      obtain ⟨g2, cap2, rfl, _, hg2⟩ := own_pos hou hp0
      have cP : wr.cell? ⟨g, k, none⟩ = some (.slice (some ⟨g2, 0, none⟩) p.length cap2) := by
        rw [(unhide HBE).cell (p := ⟨g, k, none⟩) hg, (unhide HVS).cellAt k (by omega)]; exact hu
      have HP := hide hp
      clear hu hou hp
      by_cases h5 : 5 < p.length
      · have hfin := hide (many_hit (unhide HP) h5)
        have h5' : (5 : Int) < (p.length : Int) := by omega
        go_wp2_with fail
        go_returns
        exact ⟨by rw [unhide hfin]; rfl, unhide HBE⟩
      · have h5' : ¬ (5 : Int) < (p.length : Int) := by omega
        have HNEW := hide (flat_take ps k p (unhide HP))
        go_wp2_with fail
        go_roundg (ps.length - (k + 1))
        case measure => omega
        case rel =>
          refine ⟨k + 1, by omega, rfl, by go_num, ?_, ?_, unhide HBE, unhide HBOX⟩
          · rw [unhide HNEW, List.length_append, ← unhide HC]; go_num
          · intro q hq
            rw [List.take_add_one, unhide HP] at hq
            simp at hq
            rcases hq with hq | rfl
            · exact unhide HALL q hq
            · omega
    · have hke : k = ps.length := by omega
      have hfin : Hid (Hx.manyB ps = (decide (4 < ps.length) || decide (9 < c))) := by
        have h1 := unhide HALL
        have h2 := unhide HC
        rw [hke, List.take_length] at h1 h2
        show _ = _
        rw [many_end h1, h2]
      clear hke
      by_cases h4 : 4 < ps.length
      · have hfin2 : Hid (Hx.manyB ps = true) := by show _ = _; rw [unhide hfin]; simp [h4]
        have h4' : (4 : Int) < (ps.length : Int) := by omega
        clear h4
        go_wp2_with fail
        go_returns
        exact ⟨by rw [unhide hfin2]; rfl, unhide HBE⟩
      · have h4' : ¬ (4 : Int) < (ps.length : Int) := by omega
        by_cases h9 : 9 < c
        · have hfin2 : Hid (Hx.manyB ps = true) := by show _ = _; rw [unhide hfin]; simp [h9]
          have h9' : (9 : Int) < (c : Int) := by omega
          clear h4 h9
          go_wp2_with fail
          go_returns
          exact ⟨by rw [unhide hfin2]; rfl, unhide HBE⟩
        · have hfin2 : Hid (Hx.manyB ps = false) := by show _ = _; rw [unhide hfin]; simp; omega
          have h9' : ¬ (9 : Int) < (c : Int) := by omega
          clear h4 h9
          go_wp2_with fail
          go_returns
          exact ⟨by rw [unhide hfin2]; rfl, unhide HBE⟩

/- Of plates and their steps there is at least one. -/
theorem afterF_len (s : ByteArray) (st : Hx.St) (acc : List Hx.Stp) : acc.length ≤ (Hx.afterF s st acc).2.length := by
  induction st, acc using Hx.afterF.induct s with
  | case1 st acc h => rw [Hx.afterF_bad h]; simp
  | case2 st acc h e r ih =>
    rw [Hx.afterF_comma (by simpa using h) e]
    exact Nat.le_trans (by simp) ih
  | case3 st acc h e e2 r ih =>
    rw [Hx.afterF_rest (by simpa using h) e2]
    exact Nat.le_trans (by simp) ih
  | case4 st acc h e e2 => rw [Hx.afterF_stop e e2]; simp
theorem plateF_len (s : ByteArray) (n : Nat) (st : Hx.St) : 0 < (Hx.plateF s n st).2.length := Nat.lt_of_lt_of_le (by simp) (afterF_len s _ _)
theorem platesF_ne (s : ByteArray) (st : Hx.St) (acc : List (List Hx.Stp)) (h : ∀ p ∈ acc, 0 < p.length) : ∀ p ∈ (Hx.platesF s st acc).2, 0 < p.length := by
  induction st, acc using Hx.platesF.induct s with
  | case1 st acc hb => rw [Hx.platesF_bad hb]; exact h
  | case2 st acc hb he =>
    rw [Hx.platesF_end (by simpa using hb) he]
    intro p hp
    rcases List.mem_append.1 hp with hp | hp
    · exact h p hp
    · rw [List.mem_singleton.1 hp]; exact plateF_len _ _ _
  | case3 st acc hb he ih =>
    rw [Hx.platesF_more (by simpa using hb) (by omega)]
    refine ih fun p hp => ?_
    rcases List.mem_append.1 hp with hp | hp
    · exact h p hp
    · rw [List.mem_singleton.1 hp]; exact plateF_len _ _ _
theorem platesF_pos (s : ByteArray) (st : Hx.St) (acc : List (List Hx.Stp)) (h : (Hx.platesF s st acc).1.bad = false) : 0 < (Hx.platesF s st acc).2.length := by
  induction st, acc using Hx.platesF.induct s with
  | case1 st acc hb => rw [Hx.platesF_bad hb] at h; simp only at h; rw [hb] at h; cases h
  | case2 st acc hb he => rw [Hx.platesF_end (by simpa using hb) he]; simp
  | case3 st acc hb he ih =>
    rw [Hx.platesF_more (by simpa using hb) (by omega)] at h ⊢
    exact ih h

/-- What checked answers: the fault, or what is read. -/
def ChkRes (s : ByteArray) (w : World) (e : Ending) (w' : World) : Prop :=
  Below w.heap.size w w' ∧
    (((Hx.checkF s).1 ≠ 0 ∧ e = .returned (.tuple #[.agg #[.int .i64 0, .int .i64 0, .int .i64 0, .slice none 0 0], .int .i64 ((Hx.checkF s).1 : Int), .int .i64 ((Hx.checkF s).2 : Int)])) ∨
     (Hx.checkF s = (0, 0) ∧ ∃ v, e = .returned (.tuple #[.agg #[.int .i64 ((Hx.headJ s).1 : Int), .int .i64 ((Hx.headK s).1 : Int), .int .i64 ((Hx.headD s).1 : Int), v], .int .i64 0, .int .i64 0]) ∧ Plts w' w.heap.size v (Hx.protF s).2))

theorem Plts.below {w w' : World} {base : Nat} {v : Value} {ps : List (List Hx.Stp)} (h : Plts w base v ps) (hb : Below w.heap.size w w') : Plts w' base v ps := by
  obtain ⟨vs, e1, e2⟩ := h
  have hg : w.grownBy w' none := ⟨hb.os, hb.tape, hb.output, hb.size, fun k h _ => hb.block k h⟩
  refine ⟨vs, e1.kept hg ?_, fun i p hp => ?_⟩
  · cases hv : v.ownBlock
    · exact Or.inl rfl
    · exact Or.inr (by simp)
  · obtain ⟨u, f1, f2, f3⟩ := e2 i p hp
    refine ⟨u, f1, f2.kept hg ?_, f3⟩
    cases hv : u.ownBlock
    · exact Or.inl rfl
    · exact Or.inr (by simp)

theorem four_set {b : Nat} {T : TypeId} (w : World) (x0 x1 x2 x3 y0 y1 y2 y3 : Value) (h : w.heap[b]? = some (.cells #[x0, x1, x2, x3] T (0, 0))) :
    ((((w.setCell ⟨b, 0, none⟩ y0).setCell ⟨b, 1, none⟩ y1).setCell ⟨b, 2, none⟩ y2).setCell ⟨b, 3, none⟩ y3).heap[b]? = some (.cells #[y0, y1, y2, y3] T (0, 0)) :=
  blk_set (blk_set (blk_set (blk_set h 0 y0) 1 y1) 2 y2) 3 y3

set_option maxRecDepth 100000 in
set_option maxHeartbeats 2000000 in
theorem checked_any (s : ByteArray) (w : World) (hs : s.size ≤ maxLen) (ht : Tab w) : Calls Tryz.prog 18 #[.string s] w (ChkRes s w) := by
  unfold maxLen at hs
  have HT := hide ht
  clear ht
  by_cases hlong : 120 < s.size
  · have hfin : Hid (Hx.checkF s = (1, 0)) := by show _ = _; simp [Hx.checkF, hlong]
    have hl' : (120 : Int) < (s.size : Int) := by omega
    clear hlong
    have HB0 := hide ((Below.refl w.heap.size w).alloc (Nat.le_refl _) (.cells #[.int .i64 0, .int .i64 0, .int .i64 0, .slice none 0 0] 44))
    go_enter Tryz.func18, Tryz.ntmps18
    go_wp2_with fail
    refine bodyPost_ret (v := .tuple #[.agg #[.int .i64 0, .int .i64 0, .int .i64 0, .slice none 0 0], .int .i64 1, .int .i64 0]) (by simp [results, Tryz.results18, go_sem]) rfl ?_
    exact ⟨unhide HB0, Or.inl ⟨by rw [unhide hfin]; simp, by rw [unhide hfin]; rfl⟩⟩
  · have hl' : ¬ (120 : Int) < (s.size : Int) := by omega
    have hs120 : s.size ≤ 120 := by omega
    have HC : Hid (Hx.checkF s = if (Hx.protF s).1.bad = true then (2, (Hx.protF s).1.pos) else Hx.verdict (Hx.headK s).1 (Hx.protF s).2) := by show _ = _; rw [Hx.checkF, if_neg hlong]
    clear hlong
    have HB0 := hide ((Below.refl w.heap.size w).alloc (Nat.le_refl _) (.cells #[.int .i64 0, .int .i64 0, .int .i64 0, .slice none 0 0] 44))
    have HR0 := hide (blk_new w #[.int .i64 0, .int .i64 0, .int .i64 0, .slice none 0 0] 44)
    have HS0 : Hid ((w.alloc (.cells #[.int .i64 0, .int .i64 0, .int .i64 0, .slice none 0 0] 44)).heap.size = w.heap.size + 1) := size_alloc_ _ _
    go_enter Tryz.func18, Tryz.ntmps18
    go_wp2_with fail
    generalize w.alloc (.cells #[.int .i64 0, .int .i64 0, .int .i64 0, .slice none 0 0] 44) = w0 at *
    have HT0 : Hid (Tab w0) := fun i hi => by
      have h1 := unhide HT i hi
      rw [(unhide HB0).cell (World.block_lt_of_cell? w ⟨1, i, none⟩ h1)]; exact h1
    refine (read_any s _ hs120 (unhide HT0)).mono ?_
    rintro e w1 ⟨hb1, h1⟩
    have HB1 := hide hb1
    have HR1 := hide ((hb1.block _ (lt_of_block (unhide HR0))).trans (unhide HR0))
    have HB01 := hide ((unhide HB0).trans (hb1.mono (unhide HB0).size))
    have hle := Nat.le_refl w.heap.size
    clear hb1
    rcases h1 with ⟨hbad, rfl⟩ | ⟨hgood, v, rfl, hpl, hlen⟩
    · have hfin : Hid (Hx.checkF s = (2, (Hx.protF s).1.pos)) := by show _ = _; rw [unhide HC, if_pos hbad]
      have HBAD := hide hbad
      clear hbad
      go_upto_region 4 with fail
      have HR2 := hide (blk_kept (unhide HR1) (grown_alloc w1 (.cells #[.int .i64 0, .int .i64 0, .int .i64 0, .slice none 0 0] 44) none) (by simp))
      have HB2 := hide ((unhide HB01).alloc (unhide HB01).size (.cells #[.int .i64 0, .int .i64 0, .int .i64 0, .slice none 0 0] 44))
      generalize w1.alloc (.cells #[.int .i64 0, .int .i64 0, .int .i64 0, .slice none 0 0] 44) = w2 at *
      have e0 : w2.cell? ⟨w.heap.size, 0, none⟩ = some (.int .i64 0) := blk_cell (unhide HR2) 0
      have e1 : w2.cell? ⟨w.heap.size, 1, none⟩ = some (.int .i64 0) := blk_cell (unhide HR2) 1
      have e2 : w2.cell? ⟨w.heap.size, 2, none⟩ = some (.int .i64 0) := blk_cell (unhide HR2) 2
      have e3 : w2.cell? ⟨w.heap.size, 3, none⟩ = some (.slice none 0 0) := blk_cell (unhide HR2) 3
      have ef := blk_free (unhide HR2)
      go_wp2_with fail
      refine bodyPost_ret (v := .tuple #[.agg #[.int .i64 0, .int .i64 0, .int .i64 0, .slice none 0 0], .int .i64 2, .int .i64 ((Hx.protF s).1.pos : Int)]) (by simp [results, Tryz.results18, go_sem, e0, e1, e2, e3]) rfl ?_
      refine ⟨?_, Or.inl ⟨by rw [unhide hfin]; simp, by rw [unhide hfin]; rfl⟩⟩
      first
        | exact (((((unhide HB2).setCell hle _).setCell hle _).setCell hle _).setCell hle _).drew
        | exact ((((unhide HB2).drew.setCell hle _).setCell hle _).setCell hle _).setCell hle _
        | exact ((((unhide HB2).setCell hle _).setCell hle _).setCell hle _).setCell hle _
    · have HV : Hid (Hx.checkF s = Hx.verdict (Hx.headK s).1 (Hx.protF s).2) := by show _ = _; rw [unhide HC, if_neg (by simp [hgood])]
      have hne : Hid (∀ p ∈ (Hx.protF s).2, 0 < p.length) := platesF_ne s _ [] (by simp)
      have hpos : 0 < (Hx.protF s).2.length := platesF_pos s _ [] hgood
      clear hgood HC
      obtain ⟨pr, hpr⟩ : ∃ pr, pr = Hx.protF s := ⟨_, rfl⟩
      rw [← hpr] at hpl hlen HV hne hpos
      have HPR := hide hpr
      clear hpr
      obtain ⟨pst, ps⟩ := pr
      simp only at hpl hlen HV hne hpos
      obtain ⟨ao, cap, rfl⟩ : ∃ ao cap, v = .slice ao ps.length cap := by
        obtain ⟨vs, h1, _⟩ := hpl
        exact own_form h1
      have HPL := hide hpl
      clear hpl
      go_upto_region 4 with fail
      have hp0 : 0 < w.heap.size := Nat.lt_of_le_of_lt (Nat.zero_le _) (unhide HT).pos
      have hp1 : 0 < w0.heap.size := by rw [unhide HS0]; omega
      have HPL1 := hide ((unhide HPL).kept (grown_alloc w1 (.cells #[.int .i64 ((Hx.headJ s).1 : Int), .int .i64 ((Hx.headK s).1 : Int), .int .i64 ((Hx.headD s).1 : Int), .slice ao ps.length cap] 44) (some 0)) hp1)
      have HBX := hide (blk_new w1 #[.int .i64 ((Hx.headJ s).1 : Int), .int .i64 ((Hx.headK s).1 : Int), .int .i64 ((Hx.headD s).1 : Int), .slice ao ps.length cap] 44)
      have HB2 := hide ((unhide HB01).alloc (unhide HB01).size (.cells #[.int .i64 ((Hx.headJ s).1 : Int), .int .i64 ((Hx.headK s).1 : Int), .int .i64 ((Hx.headD s).1 : Int), .slice ao ps.length cap] 44))
      have HR2 := hide (blk_kept (unhide HR1) (grown_alloc w1 (.cells #[.int .i64 ((Hx.headJ s).1 : Int), .int .i64 ((Hx.headK s).1 : Int), .int .i64 ((Hx.headD s).1 : Int), .slice ao ps.length cap] 44) none) (by simp))
      have HLT : Hid (w.heap.size ≠ w1.heap.size) := by
        have := lt_of_block (unhide HR1)
        show _ ≠ _
        omega
      generalize w1.alloc (.cells #[.int .i64 ((Hx.headJ s).1 : Int), .int .i64 ((Hx.headK s).1 : Int), .int .i64 ((Hx.headD s).1 : Int), .slice ao ps.length cap] 44) = w2 at *
      have z0 : w2.cell? ⟨w1.heap.size, 0, none⟩ = some (.int .i64 ((Hx.headJ s).1 : Int)) := blk_cell (unhide HBX) 0
      have z1 : w2.cell? ⟨w1.heap.size, 1, none⟩ = some (.int .i64 ((Hx.headK s).1 : Int)) := blk_cell (unhide HBX) 1
      have z2 : w2.cell? ⟨w1.heap.size, 2, none⟩ = some (.int .i64 ((Hx.headD s).1 : Int)) := blk_cell (unhide HBX) 2
      have z3 : w2.cell? ⟨w1.heap.size, 3, none⟩ = some (.slice ao ps.length cap) := blk_cell (unhide HBX) 3
      go_wp2_with fail
      refine (first_any _ _ _ _ _ ps _ (unhide HPL1) hpos hlen (unhide hne)).mono ?_
      rintro e w3 ⟨rfl, hb3⟩
      have HB3 := hide hb3
      have HBX3 := hide (((hb3).block _ (lt_of_block (unhide HBX))).trans (unhide HBX))
      have HR3 := hide (((hb3).block _ (lt_of_block (unhide HR2))).trans (unhide HR2))
      have HPL3 : Hid (Plts w3 w0.heap.size (.slice ao ps.length cap) ps) := Plts.below (unhide HPL1) hb3
      have y0 : w3.cell? ⟨w1.heap.size, 0, none⟩ = some (.int .i64 ((Hx.headJ s).1 : Int)) := blk_cell (unhide HBX3) 0
      have y1 : w3.cell? ⟨w1.heap.size, 1, none⟩ = some (.int .i64 ((Hx.headK s).1 : Int)) := blk_cell (unhide HBX3) 1
      have y2 : w3.cell? ⟨w1.heap.size, 2, none⟩ = some (.int .i64 ((Hx.headD s).1 : Int)) := blk_cell (unhide HBX3) 2
      have y3 : w3.cell? ⟨w1.heap.size, 3, none⟩ = some (.slice ao ps.length cap) := blk_cell (unhide HBX3) 3
      have e0 : w3.cell? ⟨w.heap.size, 0, none⟩ = some (.int .i64 0) := blk_cell (unhide HR3) 0
      have e1 : w3.cell? ⟨w.heap.size, 1, none⟩ = some (.int .i64 0) := blk_cell (unhide HR3) 1
      have e2 : w3.cell? ⟨w.heap.size, 2, none⟩ = some (.int .i64 0) := blk_cell (unhide HR3) 2
      have e3 : w3.cell? ⟨w.heap.size, 3, none⟩ = some (.slice none 0 0) := blk_cell (unhide HR3) 3
      have ef := blk_free (unhide HR3)
      have HB13 := hide ((unhide HB2).trans ((unhide HB3).mono (unhide HB2).size))
      clear hb3 HB3 HBX HR2 HB1 HB2 z0 z1 z2 z3
      cases hfw : Hx.firstWrong (Hx.headK s).1 ps with
      | some i =>
        have hfin : Hid (Hx.checkF s = (3, i)) := by show _ = _; rw [unhide HV, Hx.verdict, hfw]
        clear hfw
        go_wp2_with fail
        refine bodyPost_ret (v := .tuple #[.agg #[.int .i64 0, .int .i64 0, .int .i64 0, .slice none 0 0], .int .i64 3, .int .i64 (i : Int)]) (by simp [results, Tryz.results18, go_sem, e0, e1, e2, e3]) rfl ?_
        refine ⟨?_, Or.inl ⟨by rw [unhide hfin]; simp, by rw [unhide hfin]; rfl⟩⟩
        first
          | exact (((((unhide HB13).setCell hle _).setCell hle _).setCell hle _).setCell hle _).drew
          | exact ((((unhide HB13).drew.setCell hle _).setCell hle _).setCell hle _).setCell hle _
          | exact ((((unhide HB13).setCell hle _).setCell hle _).setCell hle _).setCell hle _
      | none =>
        have HFW := hide hfw
        clear hfw
        go_wp2_with fail
        refine (many_any _ _ _ _ _ ps _ (unhide HPL3) hpos hlen (unhide hne)).mono ?_
        rintro e w4 ⟨rfl, hb4⟩
        have HB14 := hide ((unhide HB13).trans (hb4.mono (unhide HB13).size))
        have HPL4 : Hid (Plts w4 w0.heap.size (.slice ao ps.length cap) ps) := Plts.below (unhide HPL3) hb4
        have HBX4 := hide (((hb4).block _ (lt_of_block (unhide HBX3))).trans (unhide HBX3))
        have HR4 := hide (((hb4).block _ (lt_of_block (unhide HR3))).trans (unhide HR3))
        clear hb4 HBX3 HR3 y0 y1 y2 y3 e0 e1 e2 e3 ef
        have y0 : w4.cell? ⟨w1.heap.size, 0, none⟩ = some (.int .i64 ((Hx.headJ s).1 : Int)) := blk_cell (unhide HBX4) 0
        have y1 : w4.cell? ⟨w1.heap.size, 1, none⟩ = some (.int .i64 ((Hx.headK s).1 : Int)) := blk_cell (unhide HBX4) 1
        have y2 : w4.cell? ⟨w1.heap.size, 2, none⟩ = some (.int .i64 ((Hx.headD s).1 : Int)) := blk_cell (unhide HBX4) 2
        have y3 : w4.cell? ⟨w1.heap.size, 3, none⟩ = some (.slice ao ps.length cap) := blk_cell (unhide HBX4) 3
        have e0 : w4.cell? ⟨w.heap.size, 0, none⟩ = some (.int .i64 0) := blk_cell (unhide HR4) 0
        have e1 : w4.cell? ⟨w.heap.size, 1, none⟩ = some (.int .i64 0) := blk_cell (unhide HR4) 1
        have e2 : w4.cell? ⟨w.heap.size, 2, none⟩ = some (.int .i64 0) := blk_cell (unhide HR4) 2
        have e3 : w4.cell? ⟨w.heap.size, 3, none⟩ = some (.slice none 0 0) := blk_cell (unhide HR4) 3
        have ef := blk_free (unhide HR4)
        cases hmb : Hx.manyB ps
        · have hfin : Hid (Hx.checkF s = (0, 0)) := by show _ = _; rw [unhide HV, Hx.verdict, unhide HFW]; simp [hmb]
          clear hmb
          go_wp2_with fail
          refine bodyPost_ret (v := .tuple #[.agg #[.int .i64 ((Hx.headJ s).1 : Int), .int .i64 ((Hx.headK s).1 : Int), .int .i64 ((Hx.headD s).1 : Int), .slice ao ps.length cap], .int .i64 0, .int .i64 0]) (by simp [results, Tryz.results18, go_sem, e0, e1, e2, e3]) rfl ?_
          have hlt3 : w.heap.size < w0.heap.size := by rw [unhide HS0]; omega
          refine ⟨((((unhide HB14).setCell hle _).setCell hle _).setCell hle _).setCell hle _, Or.inr ⟨unhide hfin, _, rfl, ?_⟩⟩
          rw [← unhide HPR]
          exact Plts.mono ((((unhide HPL4).set hlt3 _ _).set hlt3 _ _).set hlt3 _ _ |>.set hlt3 _ _) (by omega)
        · have hfin : Hid (Hx.checkF s = (4, 0)) := by show _ = _; rw [unhide HV, Hx.verdict, unhide HFW]; simp [hmb]
          clear hmb
          go_wp2_with fail
          refine bodyPost_ret (v := .tuple #[.agg #[.int .i64 0, .int .i64 0, .int .i64 0, .slice none 0 0], .int .i64 4, .int .i64 0]) (by simp [results, Tryz.results18, go_sem, e0, e1, e2, e3]) rfl ?_
          exact ⟨((((unhide HB14).setCell hle _).setCell hle _).setCell hle _).setCell hle _, Or.inl ⟨by rw [unhide hfin]; simp, by rw [unhide hfin]; rfl⟩⟩

set_option maxRecDepth 100000 in
set_option maxHeartbeats 2000000 in
theorem check_any (s : ByteArray) (w : World) (hs : s.size ≤ maxLen) (ht : Tab w) :
    Calls Tryz.prog 9 #[.string s] w fun e w' => e = .returned (.tuple #[.int .i64 ((Hx.checkF s).1 : Int), .int .i64 ((Hx.checkF s).2 : Int)]) ∧ Below w.heap.size w w' := by
  have HT := hide ht
  clear ht
  go_enter Tryz.func9, Tryz.ntmps9
  go_wp2_with fail
  refine (checked_any s w hs (unhide HT)).mono ?_
  rintro e w1 ⟨hb1, h1⟩
  have HB1 := hide hb1
  clear hb1
  rcases h1 with ⟨_, rfl⟩ | ⟨hok, v, rfl, hpl⟩
  · go_wp2_with fail
    go_returns
    exact ⟨rfl, (unhide HB1).alloc (unhide HB1).size _⟩
  · obtain ⟨ao, cap, rfl⟩ : ∃ ao cap, v = .slice ao (Hx.protF s).2.length cap := by
      obtain ⟨vs, h1, _⟩ := hpl
      exact own_form h1
    have HOK := hide hok
    clear hok hpl
    go_wp2_with fail
    go_returns
    exact ⟨by rw [unhide HOK]; rfl, (unhide HB1).alloc (unhide HB1).size _⟩

end Go.Proofs.YtppcnlkhdgmaiaaGreatDoor
