/- What Patient answers. What hatchkeep's earliest answers: it has found no times, or the least. What Best answers. -/
import Derived.Test.YtppcnlkhdgmaiaaDoorCKpB2
import Derived.Test.YtppcnlkhdgmaiaaDoorCKdW
import Derived.Test.YtppcnlkhdgmaiaaDoorCRrB
import Derived.Test.YtppcnlkhdgmaiaaDoorCTb
import Derived.Deep.DeepCutAuto
import Derived.Test.YtppcnlkhdgmaiaaDoorCMi
namespace Go.Proofs.YtppcnlkhdgmaiaaDoor
open Go.RowKit

/-- A plan's text, as hatchkeep makes it. -/
theorem textof_any (J K D : Nat) (ps : List (List Hx.Stp)) (v : Value) (w : World) (hJ : J < 10) (hK : K < 10) (hD : D < 10000) (hs : Hx.GoodS ps)
    (ho : w.ownsRow 0 39 7 v (Hx.labs ps).length (ksCells (Hx.labs ps))) :
    Calls Tryd.prog 13 #[planV J K D v] w fun e w' => e = .returned (.string ⟨(Hx.textL J K D (Hx.labs ps)).toArray⟩) ∧ Below w.heap.size w w' :=
  text_any J K D _ v w (by omega) (by omega) (by omega) hs.ks (by have := hs.nine; omega) ho
theorem plans_any {s : ByteArray} (J K D : Nat) (ps : List (List Hx.Stp)) (hg : ∀ N, Hx.planF s N = Hx.planS J K D ps N) (N : Int) (u : List UInt8) (x : Bool) (e : Int) (hp : Hx.planS J K D ps N = (u, x, e)) (w : World) (hs : s.size ≤ maxLen) (h : PlE w) :
    Calls Tryd.prog 16 #[.string s, .int .i64 N] w fun e' w2 => e' = .returned (.tuple #[.string ⟨u.toArray⟩, .bool x, .int .i64 e]) ∧ Below w.heap.size w w2 := by
  have := plan_any s N w hs h.1 h.2
  rw [hg N, hp] at this
  exact this
/-- The entries of what Plan has told. -/
theorem told_any {J K D : Nat} {ps : List (List Hx.Stp)} {u : List UInt8} {e : Int} {o : List Nat} {f : Nat → Int} (h : Hx.Told J K D ps u e o f) (w : World) :
    Calls Tryd.prog 19 #[.string ⟨u.toArray⟩] w fun e' w' => Below w.heap.size w w' ∧ ∃ v, e' = .returned (.tuple #[v, .int .i64 (J : Int), .bool true]) ∧ w'.ownsRow 0 55 9 v ((Hx.ttab ps o f).map Hx.entOf).length (entsCells ((Hx.ttab ps o f).map Hx.entOf)) := by
  obtain ⟨h1, h2, h3⟩ := h.scan
  refine (entries_any ⟨u.toArray⟩ w (Nat.le_trans h.size (by omega))).mono ?_
  rintro e' w' ⟨hb, v, he, ho, _⟩
  rw [h1, h2] at he
  rw [h3] at ho
  exact ⟨hb, v, he, own_mono ho (Nat.zero_le _)⟩
theorem told_over {J K D : Nat} {ps : List (List Hx.Stp)} {u : List UInt8} {e : Int} {o : List Nat} {f : Nat → Int} (h : Hx.Told J K D ps u e o f) (v : Value) (w : World)
    (ho : w.ownsRow 0 55 9 v ((Hx.ttab ps o f).map Hx.entOf).length (entsCells ((Hx.ttab ps o f).map Hx.entOf))) :
    Calls Tryd.prog 23 #[v, .int .i64 (J : Int)] w fun e' w' => e' = .returned (.int .i64 e) ∧ Dr w w' := by
  have h1 := h.tm.good.all
  have h2 := h.tm.len
  have := kover_any ((Hx.ttab ps o f).map Hx.entOf) J v w (by have := h.tm.good.j; omega) (Hx.ents_small h.tm.right.ok) (by rw [List.length_map, Hx.ttab_len]; omega) ho
  rw [h.over] at this
  exact this

set_option maxRecDepth 100000 in
set_option maxHeartbeats 4000000 in
theorem patient_any (sJ sK sD lo hi : Int) (sv : Value) (qs : List (List Hx.Raw)) (w : World) (h1 : I64 sJ) (h2 : I64 sK) (h3 : I64 sD) (h4 : I64 lo) (h5 : I64 hi) (hq : RowsR w sv qs) (hE : PlE w) :
    Calls Tryd.prog 6 #[shapeV sJ sK sD sv, .int .i64 lo, .int .i64 hi] w fun e w' => e = .returned (.bool true) ∧ Below w.heap.size w w' := by
  obtain ⟨ao, cap, rfl⟩ : ∃ ao cap, sv = .slice ao qs.length cap := by obtain ⟨ao, cap, e, _⟩ := hq; exact ⟨ao, cap, e⟩
  have HB0 := hide (belA (.cells (shapeA sJ sK sD (.slice ao qs.length cap)) 24) (Below.refl w.heap.size w))
  have HS0 := hide (blk_new w (shapeA sJ sK sD (.slice ao qs.length cap)) 24)
  have HE0 := hide (lasts_ple.alloc hE (.cells (shapeA sJ sK sD (.slice ao qs.length cap)) 24))
  have HQ := hide hq
  have hgs := Hx.shapeP_good qs
  have lJ := Hx.pickN_lt sJ (n := 10) (by omega)
  have lK := Hx.pickN_lt sK (n := 3) (by omega)
  have lD := Hx.pickN_lt sD (n := 1000) (by omega)
  have HPO : Hid (∀ w', RowsR w' (.slice ao qs.length cap) qs → Calls Tryd.prog 12 #[shapeV sJ sK sD (.slice ao qs.length cap)] w' fun e w2 => ∃ v, e = .returned (planV (Hx.pickN sJ 10) (1 + Hx.pickN sK 3) (Hx.pickN sD 1000) v) ∧ w2.ownsRow 0 39 7 v (Hx.labs (Hx.shapeP qs)).length (ksCells (Hx.labs (Hx.shapeP qs))) ∧ Below w'.heap.size w' w2) := fun w' h => plan_of_any sJ sK sD _ qs w' h1 h2 h3 h
  generalize Hx.shapeP qs = ps at HPO hgs
  generalize Hx.pickN sJ 10 = J at HPO lJ
  obtain ⟨K, hK⟩ : ∃ K, K = 1 + Hx.pickN sK 3 := ⟨_, rfl⟩
  rw [← hK] at HPO
  generalize Hx.pickN sD 1000 = D at HPO lD
  have hK1 : 1 ≤ K := by omega
  have hK9 : K < 10 := by omega
  have hg : Hx.GoodP J K D ps := hgs.good lJ hK1 hK9 (by omega)
  obtain ⟨s, hs⟩ : ∃ s : ByteArray, s = ⟨(Hx.textL J K D (Hx.labs ps)).toArray⟩ := ⟨_, rfl⟩
  obtain ⟨_, ht2⟩ := Hx.text_is hgs lJ hK1 hK9 (by omega) hs
  have HTX : Hid (∀ v w', w'.ownsRow 0 39 7 v (Hx.labs ps).length (ksCells (Hx.labs ps)) → Calls Tryd.prog 13 #[planV J K D v] w' fun e w2 => e = .returned (.string s) ∧ Below w'.heap.size w' w2) := fun v w' h => by rw [hs]; exact textof_any J K D ps v w' lJ hK9 (by omega) hgs h
  have la := Hx.pickN_lt lo (n := 1001) (by omega)
  have HPA : Hid (∀ w', Calls Tryd.prog 15 #[.int .i64 lo, .int .i64 1001] w' fun e w2 => e = .returned (.int .i64 (Hx.pickN lo 1001 : Int)) ∧ w' = w2) := fun w' => (pick_any lo 1001 w' h4.1 h4.2 (by omega) (by omega)).mono (fun e w2 h => ⟨h.1, h.2.symm⟩)
  have HPC : Hid (∀ w', Calls Tryd.prog 15 #[.int .i64 lo, .int .i64 1073741824] w' fun e w2 => e = .returned (.int .i64 (Hx.pickN lo 1073741824 : Int)) ∧ w' = w2) := fun w' => (pick_any lo 1073741824 w' h4.1 h4.2 (by omega) (by omega)).mono (fun e w2 h => ⟨h.1, h.2.symm⟩)
  have lc := Hx.pickN_lt lo (n := 1073741824) (by omega)
  generalize Hx.pickN lo 1001 = a at HPA la
  generalize Hx.pickN lo 1073741824 = c at HPC lc
  have lb := Hx.pickN_lt hi (n := 1001 - a) (by omega)
  have HPB : Hid (∀ w' (nI : Int), nI = 1001 - (a : Int) → Calls Tryd.prog 15 #[.int .i64 hi, .int .i64 nI] w' fun e w2 => e = .returned (.int .i64 (Hx.pickN hi (1001 - a) : Int)) ∧ w' = w2) := fun w' nI hn => by
    rw [show nI = ((1001 - a : Nat) : Int) by omega]
    exact (pick_any hi (1001 - a) w' h5.1 h5.2 (by omega) (by omega)).mono (fun e w2 h => ⟨h.1, h.2.symm⟩)
  generalize Hx.pickN hi (1001 - a) = b0 at HPB lb
  obtain ⟨b, hb⟩ : ∃ b, b = a + b0 := ⟨_, rfl⟩
  have hpat := Hx.patient_is hg (a := a) (b := b) (by omega) (by omega)
  have HPN : Hid (∀ N : Int, N < 0 → Hx.planS J K D ps N = ([], false, 5)) := fun N hN => by unfold Hx.planS; rw [if_pos (Or.inl hN)]
  obtain ⟨ua, xa, ea, hA⟩ : ∃ ua xa ea, Hx.planS J K D ps (a : Int) = (ua, xa, ea) := ⟨_, _, _, rfl⟩
  obtain ⟨ub, xb, eb, hB⟩ : ∃ ub xb eb, Hx.planS J K D ps (b : Int) = (ub, xb, eb) := ⟨_, _, _, rfl⟩
  rw [hA, hB] at hpat
  have HPAT := hide hpat
  have HLA : Hid (s.size ≤ 120 → ∀ w', PlE w' → Calls Tryd.prog 16 #[.string s, .int .i64 (a : Int)] w' fun e w2 => e = .returned (.tuple #[.string ⟨ua.toArray⟩, .bool xa, .int .i64 ea]) ∧ Below w'.heap.size w' w2) := fun h120 w' h => plans_any J K D ps (ht2 h120) _ _ _ _ hA w' (by unfold maxLen; omega) h
  have HLB : Hid (s.size ≤ 120 → ∀ w' (nI : Int), nI = (a : Int) + (b0 : Int) → PlE w' → Calls Tryd.prog 16 #[.string s, .int .i64 nI] w' fun e w2 => e = .returned (.tuple #[.string ⟨ub.toArray⟩, .bool xb, .int .i64 eb]) ∧ Below w'.heap.size w' w2) := fun h120 w' nI hn h => by
    rw [show nI = (b : Int) by omega]
    exact plans_any J K D ps (ht2 h120) _ _ _ _ hB w' (by unfold maxLen; omega) h
  have HLC : Hid (s.size ≤ 120 → ∀ w' (nI : Int), nI < 0 → PlE w' → Calls Tryd.prog 16 #[.string s, .int .i64 nI] w' fun e w2 => e = .returned (.tuple #[.string ⟨([] : List UInt8).toArray⟩, .bool false, .int .i64 5]) ∧ Below w'.heap.size w' w2) := fun h120 w' nI hn h => plans_any J K D ps (ht2 h120) _ _ _ _ (unhide HPN nI hn) w' (by unfold maxLen; omega) h
  clear hpat hA hB ht2 hs hq hgs hg hK HPN h1 h2 h3 h4 h5 hE
  have HBB := hide hb
  clear hb
  go_enter Tryd.func6, Tryd.ntmps6
  go_upto_region 1 with fail
  generalize w.alloc (.cells (shapeA sJ sK sD (.slice ao qs.length cap)) 24) = W1 at HB0 HS0 HE0 ⊢
  go_wp2_with fail
  refine (planned_ple W1 (unhide HE0)).mono ?_
  rintro e w1 ⟨rfl, hb1⟩
  have HE1 := hide (lasts_ple _ _ (unhide HE0) hb1)
  have HB1 := hide ((unhide HB0).trans (hb1.mono (unhide HB0).size))
  have HS1 := hide ((hb1.block _ (lt_of_block (unhide HS0))).trans (unhide HS0))
  clear hb1 HB0 HS0 HE0
  have c0 : w1.cell? ⟨w.heap.size, 0, none⟩ = some (.int .i64 sJ) := blk_cell (unhide HS1) 0
  have c1 : w1.cell? ⟨w.heap.size, 1, none⟩ = some (.int .i64 sK) := blk_cell (unhide HS1) 1
  have c2 : w1.cell? ⟨w.heap.size, 2, none⟩ = some (.int .i64 sD) := blk_cell (unhide HS1) 2
  have c3 : w1.cell? ⟨w.heap.size, 3, none⟩ = some (.slice ao qs.length cap) := blk_cell (unhide HS1) 3
  go_wp2_with fail
  refine (unhide HPO w1 ((unhide HQ).below (unhide HB1) (Nat.le_refl _))).mono ?_
  rintro e w2 ⟨v2, rfl, ho2, hb2⟩
  have HE2 := hide (lasts_ple _ _ (unhide HE1) hb2)
  have HB2 := hide ((unhide HB1).trans (hb2.mono (unhide HB1).size))
  have HO2 := hide ho2
  clear hb2 ho2 HE1 HB1 HPO HQ HS1 c0 c1 c2 c3
  go_wp2_with fail
  refine (unhide HTX v2 w2 (unhide HO2)).mono ?_
  rintro e w3 ⟨rfl, hb3⟩
  have HE3 := hide (lasts_ple _ _ (unhide HE2) hb3)
  have HB3 := hide ((unhide HB2).trans (hb3.mono (unhide HB2).size))
  clear hb3 HE2 HB2 HTX HO2
  by_cases h120 : s.size ≤ 120
  · have hI : ¬ (120 : Int) < (s.size : Int) := by omega
    have CA := hide (unhide HLA h120)
    have CB := hide (unhide HLB h120)
    have CC := hide (unhide HLC h120)
    clear HLA HLB HLC
    go_wp2_with fail
    refine (unhide HPA _).mono ?_
    rintro e w4 ⟨rfl, rfl⟩
    go_wp2_with fail
    refine (unhide HPB _ _ (by first | rfl | omega)).mono ?_
    rintro e w4 ⟨rfl, rfl⟩
    go_wp2_with fail
    refine (unhide CA _ (unhide HE3)).mono ?_
    rintro e w4 ⟨rfl, hb4⟩
    have HE4 := hide (lasts_ple _ _ (unhide HE3) hb4)
    have HB4 := hide ((unhide HB3).trans (hb4.mono (unhide HB3).size))
    clear hb4 HE3 HB3 CA HPA HPB
    go_wp2_with fail
    refine (unhide CB _ _ (by first | rfl | omega) (unhide HE4)).mono ?_
    rintro e w5 ⟨rfl, hb5⟩
    have HE5 := hide (lasts_ple _ _ (unhide HE4) hb5)
    have HB5 := hide ((unhide HB4).trans (hb5.mono (unhide HB4).size))
    clear hb5 HE4 HB4 CB
    go_wp2_with fail
    refine (unhide HPC _).mono ?_
    rintro e w6 ⟨rfl, rfl⟩
    go_wp2_with fail
    refine (unhide CC _ _ (by omega) (unhide HE5)).mono ?_
    rintro e w6 ⟨rfl, hb6⟩
    have HB6 := hide ((unhide HB5).trans (hb6.mono (unhide HB5).size))
    clear hb6 HE5 HB5 CC HPC
    rcases (unhide HPAT).err with h | h | h | h
    all_goals
      have h : ea = _ := h
      subst h
    · cases xa with
      | true =>
        have hbe := (unhide HPAT).sure rfl rfl
        cases hbe
        go_wp2_with fail
        go_returns
        exact ⟨rfl, unhide HB6⟩
      | false =>
        obtain ⟨hb0, e1, e2, o1, o2, f1, f2, t1, t2, hle⟩ := (unhide HPAT).more rfl rfl
        have hb0 : eb = 0 := hb0
        subst hb0
        have T1 := hide t1
        have T2 := hide t2
        have hle2 : decide (e2 ≤ e1) = true := by simpa using hle
        clear t1 t2 HPAT
        go_wp2_with fail
        refine (told_any (unhide T1) _).mono ?_
        rintro e w7 ⟨hb7, v7, rfl, ho7⟩
        have HB7 := hide ((unhide HB6).trans (hb7.mono (unhide HB6).size))
        have HO7 := hide ho7
        clear hb7 ho7 HB6
        go_wp2_with fail
        refine (told_any (unhide T2) _).mono ?_
        rintro e w8 ⟨hb8, v8, rfl, ho8⟩
        have HB8 := hide ((unhide HB7).trans (hb8.mono (unhide HB7).size))
        have HO8 := hide ho8
        have HO7b := hide (own_below (unhide HO7) hb8)
        clear hb8 ho8 HB7 HO7
        go_wp2_with fail
        refine (told_over (unhide T2) v8 _ (unhide HO8)).mono ?_
        rintro e w9 ⟨rfl, hd9⟩
        have HB9 := hide (hd9.below (unhide HB8))
        have HO9 := hide (own_below (unhide HO7b) (hd9.below (Below.refl _ _)))
        clear hd9 HB8 HO8 HO7b
        go_wp2_with fail
        refine (told_over (unhide T1) v7 _ (unhide HO9)).mono ?_
        rintro e w10 ⟨rfl, hd10⟩
        have HB10 := hide (hd10.below (unhide HB9))
        clear hd10 HB9 HO9
        go_wp2_with fail
        go_returns
        refine ⟨?_, unhide HB10⟩
        first | rfl | simp [hle]
    · obtain ⟨hb0, hu⟩ := (unhide HPAT).none (Or.inr rfl)
      have hb0 : eb = 6 := hb0
      have hu : ub = ua := hu
      subst hb0 hu
      clear HPAT
      go_wp2_with fail
      go_returns
      exact ⟨rfl, unhide HB6⟩
    · obtain ⟨hb0, hu⟩ := (unhide HPAT).none (Or.inl rfl)
      have hb0 : eb = 7 := hb0
      have hu : ub = ua := hu
      subst hb0 hu
      clear HPAT
      go_wp2_with fail
      go_returns
      exact ⟨rfl, unhide HB6⟩
    · rcases (unhide HPAT).spent rfl with h | h | h
      all_goals
        have h : eb = _ := h
        subst h
        clear HPAT
        go_wp2_with fail
        go_returns
        exact ⟨rfl, unhide HB6⟩
  · have hI : (120 : Int) < (s.size : Int) := by omega
    go_wp2_with fail
    go_returns
    exact ⟨rfl, unhide HB3⟩
end Go.Proofs.YtppcnlkhdgmaiaaDoor
namespace Go.Proofs.YtppcnlkhdgmaiaaDoor
open Go.RowKit

/-- What lies in memory while earliest raises. -/
structure InQ (w : World) (gt n : Nat) (P : Array Value) (f : Nat → Int) (w' : World) : Prop where
  pb : w'.heap[w.heap.size]? = some (.cells P 28 (0, 0))
  tr : w'.ownsRow w.heap.size 3 1 (.slice (some ⟨gt, 0, none⟩) n n) n (intCells n f)
  be : Below w.heap.size w w'
theorem InQ.drewN {w gt n P f w'} (h : InQ w gt n P f w') (m : Nat) : InQ w gt n P f (w'.drewN m) := ⟨h.pb, own_below h.tr (below_drewN (Below.refl _ _) m), below_drewN h.be m⟩
theorem InQ.set {w gt n P f w'} (h : InQ w gt n P f w') (hg : w.heap.size < gt) (p : Nat) (v : Int) : InQ w gt n P (Hx.updT f p v) (w'.setCell ⟨gt, p, none⟩ (.int .i64 v)) := by
  refine ⟨blk_set_other h.pb (by omega) _ _, ?_, h.be.setCell (by show w.heap.size ≤ gt; omega) _⟩
  have hs := (h.tr.stored p (.int .i64 v)).1
  rw [intCells_set] at hs
  exact hs
theorem InQ.cell {w gt n P f w'} (h : InQ w gt n P f w') {i : Nat} (hi : i < n) : w'.cell? ⟨gt, i, none⟩ = some (.int .i64 (f i)) := by
  rw [h.tr.cellAt i (by omega)]
  exact intCells_at hi
theorem InQ.free {w gt n P f w'} (h : InQ w gt n P f w') (i : Nat) : w'.frozen? ⟨gt, i, none⟩ = false := h.tr.frozenAt i
namespace Hx
theorem low1_up {J : Nat} {L : List Lst} {o : List Nat} {T : Nat → Int} {B : Int} (hJ : J < 10) (hL : ∀ y ∈ L, KS y) (hlt : ∀ i ∈ o, i < L.length) (h : ∀ i, i < L.length → T i ≤ B) {k : Nat} (hk : k < o.length) : low1 J L o T k ≤ B + 3000 := by
  have hat : ∀ j, j < o.length → o.getD j 0 < L.length := fun j hj => hlt _ (List.mem_of_getElem? (getD_at hj))
  have h1 := h _ (hat k hk)
  unfold low1
  split
  · have h2 := hat (k - 1) (by omega)
    have h3 := h _ h2
    have h4 : hiAt L (o.getD (k - 1) 0) < 1000 := by unfold hiAt; rw [List.getElem?_eq_getElem h2]; exact (hL _ (List.getElem_mem h2)).hi
    exact gtI_le (by omega) (by omega)
  · omega
theorem low2_up {J : Nat} {L : List Lst} {o : List Nat} {T : Nat → Int} {B : Int} (hJ : J < 10) (hL : ∀ y ∈ L, KS y) (hlt : ∀ i ∈ o, i < L.length) (h : ∀ i, i < L.length → T i ≤ B) {k : Nat} (hk : k < o.length) : low2 J L o T k ≤ B + 3000 := by
  have hi := hlt _ (List.mem_of_getElem? (getD_at hk))
  have h1 := low1_up hJ hL hlt h hk
  unfold low2
  split
  · have h2 : o.getD k 0 - 1 < L.length := by omega
    have h3 := h _ h2
    have h4 : hiAt L (o.getD k 0 - 1) < 1000 := by unfold hiAt; rw [List.getElem?_eq_getElem h2]; exact (hL _ (List.getElem_mem h2)).hi
    have h5 : mnAt L (o.getD k 0) < 1000 := by unfold mnAt; rw [List.getElem?_eq_getElem hi]; exact (hL _ (List.getElem_mem hi)).mn
    exact gtI_le h1 (by omega)
  · exact h1
theorem lowE_up {J : Nat} {L : List Lst} {o : List Nat} {T : Nat → Int} {B : Int} (hJ : J < 10) (hL : ∀ y ∈ L, KS y) (hlt : ∀ i ∈ o, i < L.length) (h : ∀ i, i < L.length → T i ≤ B) {k : Nat} (hk : k < o.length) : lowE J L o T k ≤ B + 3000 := by
  have h1 := low2_up hJ hL hlt h hk
  unfold lowE
  split
  · rename_i hr
    obtain ⟨z, hz, _⟩ := restAfter_lt hr
    have h3 := h _ (getElem?_lt hz)
    exact gtI_le h1 (by omega)
  · exact h1
end Hx

set_option maxRecDepth 100000 in
set_option maxHeartbeats 4000000 in
theorem earliest_any (J K D : Nat) (L : List Hx.Lst) (o : List Nat) (v ov : Value) (w : World) (hJ : J < 10) (hL : ∀ y ∈ L, KS y) (hpos : 0 < L.length) (h9 : L.length ≤ 9) (hlen : o.length = L.length) (hlt : ∀ i ∈ o, i < L.length)
    (hr0 : ∀ i y, L[i]? = some y → y.x.rest = true → 1 ≤ i)
    (ho : w.ownsRow 0 39 7 v L.length (ksCells L)) (hoo : w.ownsRow 0 3 1 ov o.length (ints (nats o))) :
    Calls Tryd.prog 25 #[planV J K D v, ov] w fun e w' => ∃ r, e = .returned (.int .i64 r) ∧ Hx.EarlP J L o r ∧ Below w.heap.size w w' := by
  obtain ⟨gs, caps, rfl, _, hgs⟩ := own_pos ho hpos
  rw [hlen] at hoo
  obtain ⟨go, capo, rfl, _, hgo⟩ := own_pos hoo hpos
  obtain ⟨i3, hi3, hz30, hz31, hz32⟩ := info_parts Tryd.info3
  have HI3 := hide hi3
  have HZ30 := hide hz30
  have HZ31 := hide hz31
  have HZ32 := hide hz32
  obtain ⟨n, hn⟩ : ∃ n, n = L.length := ⟨_, rfl⟩
  have HCL : Hid (∀ (j : Nat) (y : Hx.Lst), L[j]? = some y → ∀ w', Below w.heap.size w w' → ∀ t, t < 7 → w'.cell? ⟨gs, j * 7 + t, none⟩ = (kstCells y)[t]?) := fun j y hy w' hb t ht => by
    rw [hb.cell (p := ⟨gs, j * 7 + t, none⟩) hgs]
    exact own_at kstCells 7 (fun _ => rfl) ho rfl j y hy t ht
  have HOC : Hid (∀ k, k < n → ∀ w', Below w.heap.size w w' → w'.cell? ⟨go, k, none⟩ = some (.int .i64 ((o.getD k 0 : Nat) : Int))) := fun k hk w' hb => by
    rw [hb.cell (p := ⟨go, k, none⟩) hgo]
    exact ord_at hoo hlen.symm (by rw [← hn]; exact hk)
  have HAT : Hid (∀ k, k < n → o.getD k 0 < n) := fun k hk => by rw [hn]; exact hlt _ (List.mem_of_getElem? (Hx.getD_at (by omega)))
  have HLY : Hid (∀ j, j < n → ∃ y, L[j]? = some y ∧ KS y) := fun j hj => ⟨L[j]'(by omega), List.getElem?_eq_getElem _, hL _ (List.getElem_mem _)⟩
  have HUP : Hid (∀ (T : Nat → Int) (B : Int), (∀ i, i < n → T i ≤ B) → ∀ k, k < n → Hx.low1 J L o T k ≤ B + 3000 ∧ Hx.low2 J L o T k ≤ B + 3000 ∧ Hx.lowE J L o T k ≤ B + 3000) := fun T B h k hk =>
    ⟨Hx.low1_up hJ hL hlt (by rw [← hn]; exact h) (by omega), Hx.low2_up hJ hL hlt (by rw [← hn]; exact h) (by omega), Hx.lowE_up hJ hL hlt (by rw [← hn]; exact h) (by omega)⟩
  have HMN : Hid (∀ (T S : Nat → Int), (∀ i, i < n → T i ≤ S i) → ∀ k, k < n → Hx.lowE J L o T k ≤ Hx.lowE J L o S k) := fun T S h k hk => Hx.lowE_mono hlt (by rw [← hn]; exact h) (by omega)
  have HR0 := hide hr0
  have HEP : Hid (∀ (T : Nat → Int) (r : Int), T n = 0 → (∀ i, i < n → 0 ≤ T i) → (∀ j, j < n → Hx.lowE J L o T j ≤ T (o.getD j 0)) → (∀ S : Nat → Int, (∀ i, i < n → 0 ≤ S i) → (∀ j, j < n → Hx.lowE J L o S j ≤ S (o.getD j 0)) → ∀ i, i < n → T i ≤ S i) → r = T (o.getD (n - 1) 0) + J + Hx.hiAt L (o.getD (n - 1) 0) → Hx.EarlP J L o r) := fun T r a1 a2 a3 a4 a5 => by
    refine Or.inr ⟨T, by rw [← hn]; exact a1, by rw [← hn]; exact a2, fun j hj => a3 j (by omega), ?_, by rw [hlen, ← hn]; exact a5⟩
    rw [← hn]
    exact fun S s1 s2 => a4 S s1 (fun j hj => s2 j (by omega))
  have HNL := hide hn
  rw [← hn] at h9 hpos
  rw [show L.length = n from hn.symm]
  have HB0 := hide (belA (.cells #[.int .i64 (J : Int), .int .i64 (K : Int), .int .i64 (D : Int), .slice (some ⟨gs, 0, none⟩) n caps] 28) (Below.refl w.heap.size w))
  have HP0 := hide (blk_new w #[.int .i64 (J : Int), .int .i64 (K : Int), .int .i64 (D : Int), .slice (some ⟨gs, 0, none⟩) n caps] 28)
  have HZ0 : Hid ((w.alloc (.cells #[.int .i64 (J : Int), .int .i64 (K : Int), .int .i64 (D : Int), .slice (some ⟨gs, 0, none⟩) n caps] 28)).heap.size = w.heap.size + 1) := size_alloc_ _ _
  clear ho hoo hL hlt hlen hn hr0 hi3 hz30 hz31 hz32
  go_enter Tryd.func25, Tryd.ntmps25
  go_upto_region 1 with fail
  generalize w.alloc (.cells #[.int .i64 (J : Int), .int .i64 (K : Int), .int .i64 (D : Int), .slice (some ⟨gs, 0, none⟩) n caps] 28) = w1 at HB0 HP0 HZ0 ⊢
  have p3 : w1.cell? ⟨w.heap.size, 3, none⟩ = some (.slice (some ⟨gs, 0, none⟩) n caps) := blk_cell (unhide HP0) 3
  go_wp2_with (at_make; refine wpList_make_full _ rfl _ _ 49 rfl w.heap.size 3 i3 (.int .i64 0) 1 Tryd.underlying49 (unhide HI3) (unhide HZ30) (unhide HZ31) _ _ _ _ n rfl rfl (by simp) (by simp) (by rw [unhide HZ32]; omega) (by unfold maxLen; omega) (unhide HB0).size ?_; intro w2 hown2 hgrow2)
  rw [intCells_made] at hown2
  obtain ⟨gt, hgt⟩ : ∃ gt, gt = w1.heap.size := ⟨_, rfl⟩
  have hgtw : w.heap.size < gt := by rw [hgt, unhide HZ0]; omega
  rw [← hgt] at hown2 ⊢
  have HIN0 : Hid (InQ w gt n #[.int .i64 (J : Int), .int .i64 (K : Int), .int .i64 (D : Int), .slice (some ⟨gs, 0, none⟩) n caps] (fun _ => 0) w2) :=
    ⟨(hgrow2.block _ (lt_of_block (unhide HP0)) (by simp)).trans (unhide HP0), hown2, (unhide HB0).grown hgrow2 (unhide HB0).size (fun k e => by cases e)⟩
  clear hown2 hgrow2 hgt HB0 HP0 p3 HZ0
  go_loopg [6] (2 * n + 3) (fun gk rr wr => ∃ (q : Nat) (f : Nat → Int), q ≤ 2 * n + 3 ∧ gk = 2 * n + 3 - q ∧ rr = .int .i64 (q : Int) ∧ Hid (f n = 0 ∧ (∀ i, i < n → 0 ≤ f i ∧ f i ≤ (30000 * q : Nat)) ∧ (∀ S : Nat → Int, (∀ i, i < n → 0 ≤ S i) → (∀ j, j < n → Hx.lowE J L o S j ≤ S (o.getD j 0)) → ∀ i, i < n → f i ≤ S i)) ∧ InQ w gt n #[.int .i64 (J : Int), .int .i64 (K : Int), .int .i64 (D : Int), .slice (some ⟨gs, 0, none⟩) n caps] f wr)
  case atStart => exact ⟨0, fun _ => 0, Nat.zero_le _, rfl, rfl, ⟨rfl, fun i _ => ⟨Int.le_refl _, by simp⟩, fun S hS _ i hi => hS i hi⟩, unhide HIN0⟩
  case round =>
    clear HIN0
    obtain ⟨q, f0, hq, rfl, rfl, HF0, hin⟩ := hrel
    have HIN0 := hide hin
    clear hin
    by_cases hqlt : q < 2 * n + 3
    · have hqI : (q : Int) ≤ 2 * (n : Int) + 2 := by omega
      go_wp2_with fail
      go_loopg [7, 8] n (fun gk st kk wr => ∃ (k : Nat) (f : Nat → Int) (b : Bool), k ≤ n ∧ gk = n - k ∧ st = .bool b ∧ kk = .int .i64 (k : Int) ∧ Hid (f n = 0 ∧ (∀ i, i < n → 0 ≤ f i ∧ f i ≤ (30000 * q + 3000 * k : Nat)) ∧ (∀ S : Nat → Int, (∀ i, i < n → 0 ≤ S i) → (∀ j, j < n → Hx.lowE J L o S j ≤ S (o.getD j 0)) → ∀ i, i < n → f i ≤ S i) ∧ (b = true → ∀ j, j < k → Hx.lowE J L o f j ≤ f (o.getD j 0))) ∧ InQ w gt n #[.int .i64 (J : Int), .int .i64 (K : Int), .int .i64 (D : Int), .slice (some ⟨gs, 0, none⟩) n caps] f wr)
      case atStart => exact ⟨0, f0, true, Nat.zero_le _, rfl, rfl, rfl, ⟨(unhide HF0).1, (unhide HF0).2.1, (unhide HF0).2.2, fun _ j hj => absurd hj (Nat.not_lt_zero _)⟩, unhide HIN0⟩
      case round =>
        clear HIN0 HF0
        obtain ⟨k, f, b, hk, rfl, rfl, rfl, HF, hin⟩ := hrel
        have HIN := hide hin
        clear hin
        by_cases hklt : k < n
        · have hkI : (k : Int) < (n : Int) := by omega
          obtain ⟨B, hB⟩ : ∃ B : Nat, B = 30000 * q + 3000 * k := ⟨_, rfl⟩
          have hBl : B ≤ 1000000 := by omega
          have HFB : Hid (∀ i, i < n → 0 ≤ f i ∧ f i ≤ (B : Int)) := by rw [hB]; exact (unhide HF).2.1
          have HBE := hide hB
          obtain ⟨i, hi⟩ : ∃ i, i = o.getD k 0 := ⟨_, rfl⟩
          have hin : i < n := by rw [hi]; exact unhide HAT k hklt
          obtain ⟨y, hy, hks⟩ := unhide HLY i hin
          have HY := hide hy
          have HI := hide hi
          obtain ⟨u1, u2, u3⟩ := unhide HUP f B (fun i hi => (unhide HFB i hi).2) k hklt
          have g0 : wr.cell? ⟨go, k, none⟩ = some (.int .i64 (i : Int)) := by rw [hi]; exact unhide HOC k hklt wr (unhide HIN).be
          obtain ⟨ai, hai⟩ : ∃ ai, ai = f i := ⟨_, rfl⟩
          have t0 : wr.cell? ⟨gt, i, none⟩ = some (.int .i64 ai) := by rw [hai]; exact (unhide HIN).cell hin
          obtain ⟨a1, a2⟩ := unhide HFB i hin
          rw [← hai] at a1 a2
          have HAI := hide hai
          have hinI : (i : Int) < (n : Int) := by omega
          have hi0 : (0 : Int) ≤ (i : Int) := by omega
          have b1 := hks.lo
          have b2 := hks.hi
          have b3 := hks.mn
          have b4 := hks.mx
          obtain ⟨lw1, hlw1⟩ : ∃ lw1, lw1 = Hx.low1 J L o f k := ⟨_, rfl⟩
          obtain ⟨lw2, hlw2⟩ : ∃ lw2, lw2 = Hx.low2 J L o f k := ⟨_, rfl⟩
          obtain ⟨lw, hlw⟩ : ∃ lw, lw = Hx.lowE J L o f k := ⟨_, rfl⟩
          have v1 := Hx.low1_ge J L o f k
          have v2 := Hx.low2_ge J L o f k
          have v3 := Hx.lowE_ge J L o f k
          rw [← hi, ← hai, ← hlw1] at v1
          rw [← hlw1, ← hlw2] at v2
          rw [← hlw2, ← hlw] at v3
          rw [← hlw1] at u1
          rw [← hlw2] at u2
          rw [← hlw] at u3
          have HL1 := hide hlw1
          have HL2 := hide hlw2
          have HLE := hide hlw
          clear hB hi hy hks hai hlw1 hlw2 hlw
          go_upto_if 39 with fail
          go_cut [10] (fun s10 wc => s10 = .int .i64 lw1 ∧ InQ w gt n #[.int .i64 (J : Int), .int .i64 (K : Int), .int .i64 (D : Int), .slice (some ⟨gs, 0, none⟩) n caps] f wc)
          case first =>
            by_cases hk0 : 0 < k
            · have hk0I : (0 : Int) < (k : Int) := by omega
              obtain ⟨kp, hkp⟩ : ∃ kp, kp = k - 1 := ⟨_, rfl⟩
              obtain ⟨j, hj⟩ : ∃ j, j = o.getD kp 0 := ⟨_, rfl⟩
              have hjn : j < n := by rw [hj]; exact unhide HAT kp (by omega)
              obtain ⟨z, hz, hkz⟩ := unhide HLY j hjn
              obtain ⟨aj, haj⟩ : ∃ aj, aj = f j := ⟨_, rfl⟩
              have t1 : wr.cell? ⟨gt, j, none⟩ = some (.int .i64 aj) := by rw [haj]; exact (unhide HIN).cell hjn
              obtain ⟨a3, a4⟩ := unhide HFB j hjn
              rw [← haj] at a3 a4
              have g1 : wr.cell? ⟨go, kp, none⟩ = some (.int .i64 (j : Int)) := by rw [hj]; exact unhide HOC kp (by omega) wr (unhide HIN).be
              have z3 : wr.cell? ⟨gs, j * 7 + 3, none⟩ = some (.int .i64 (z.x.hi : Int)) := unhide HCL j z hz wr (unhide HIN).be 3 (by omega)
              have p0 : wr.cell? ⟨w.heap.size, 0, none⟩ = some (.int .i64 (J : Int)) := blk_cell (unhide HIN).pb 0
              have p3 : wr.cell? ⟨w.heap.size, 3, none⟩ = some (.slice (some ⟨gs, 0, none⟩) n caps) := blk_cell (unhide HIN).pb 3
              have HG : (if aj + (J : Int) + (z.x.hi : Int) < ai then ai else aj + (J : Int) + (z.x.hi : Int)) = lw1 := by
                show _ = _
                rw [unhide HL1]
                unfold Hx.low1 Hx.gtI
                rw [if_pos hk0, ← unhide HI, ← unhide HAI, ← hkp, ← hj, ← haj]
                have : Hx.hiAt L j = z.x.hi := by unfold Hx.hiAt; rw [hz]
                rw [this]
              have HGC : Hid (∀ w', Calls Tryd.prog 41 #[.int .i64 ai, .int .i64 (aj + (J : Int) + (z.x.hi : Int))] w' fun e w2 => e = .returned (.int .i64 lw1) ∧ w2 = w') := fun w' => by have h := kgreater_any ai (aj + (J : Int) + (z.x.hi : Int)) w'; rw [HG] at h; exact h
              have hwI : IntKind.i64.wrap ((k : Int) - 1) = (kp : Int) := by
                rw [show (k : Int) - 1 = (kp : Int) by omega]
                exact IntWalk.i64_in _ ⟨by omega, by omega⟩
              have hkp0 : (0 : Int) ≤ (kp : Int) := by omega
              have hkpn : (kp : Int) < (n : Int) := by omega
              have hjI : (j : Int) < (n : Int) := by omega
              have hj0 : (0 : Int) ≤ (j : Int) := by omega
              have c1 := hkz.hi
              clear hk0 hkp hj hz hkz haj HG
              go_wp2_with fail
              go_quiet ((go_at_call 41; refine Calls.quiet_of_same (unhide HGC _)))
              go_wp2_with fail
              go_meet
              case rel => exact ⟨rfl, (unhide HIN).drewN _⟩
            · have hk0I : ¬ (0 : Int) < (k : Int) := by omega
              have HG : Hid (ai = lw1) := by
                show _ = _
                rw [unhide HL1, unhide HAI, unhide HI]
                unfold Hx.low1
                rw [if_neg hk0]
              clear hk0
              go_wp2_with fail
              go_meet
              case rel => exact ⟨by rw [unhide HG], unhide HIN⟩
          case rest =>
          obtain ⟨rfl, hin1⟩ := hcut
          clear HIN g0 t0
          have HIN := hide hin1
          clear hin1
          have x4 : wc.cell? ⟨gs, i * 7 + 4, none⟩ = some (.bool y.x.rest) := unhide HCL i y (unhide HY) wc (unhide HIN).be 4 (by omega)
          have p3 : wc.cell? ⟨w.heap.size, 3, none⟩ = some (.slice (some ⟨gs, 0, none⟩) n caps) := blk_cell (unhide HIN).pb 3
          go_upto_if 69 with fail
          go_cut [10] (fun s10 wc => s10 = .int .i64 lw2 ∧ InQ w gt n #[.int .i64 (J : Int), .int .i64 (K : Int), .int .i64 (D : Int), .slice (some ⟨gs, 0, none⟩) n caps] f wc)
          case first =>
            cases hr : y.x.rest with
            | true =>
              rw [hr] at x4
              have hi1 := unhide HR0 i y (unhide HY) hr
              obtain ⟨j, hj⟩ : ∃ j, j = i - 1 := ⟨_, rfl⟩
              have hjn : j < n := by omega
              obtain ⟨z, hz, hkz⟩ := unhide HLY j hjn
              obtain ⟨aj, haj⟩ : ∃ aj, aj = f j := ⟨_, rfl⟩
              have t1 : wc.cell? ⟨gt, j, none⟩ = some (.int .i64 aj) := by rw [haj]; exact (unhide HIN).cell hjn
              obtain ⟨a3, a4⟩ := unhide HFB j hjn
              rw [← haj] at a3 a4
              have z3 : wc.cell? ⟨gs, j * 7 + 3, none⟩ = some (.int .i64 (z.x.hi : Int)) := unhide HCL j z hz wc (unhide HIN).be 3 (by omega)
              have x5 : wc.cell? ⟨gs, i * 7 + 5, none⟩ = some (.int .i64 (y.x.mn : Int)) := unhide HCL i y (unhide HY) wc (unhide HIN).be 5 (by omega)
              have p0 : wc.cell? ⟨w.heap.size, 0, none⟩ = some (.int .i64 (J : Int)) := blk_cell (unhide HIN).pb 0
              have HG : (if aj + (J : Int) + (z.x.hi : Int) + (y.x.mn : Int) < lw1 then lw1 else aj + (J : Int) + (z.x.hi : Int) + (y.x.mn : Int)) = lw2 := by
                show _ = _
                rw [unhide HL2]
                unfold Hx.low2 Hx.gtI
                have e1 : Hx.rsAt L i = true := by unfold Hx.rsAt; rw [unhide HY]; exact hr
                have e2 : Hx.hiAt L j = z.x.hi := by unfold Hx.hiAt; rw [hz]
                have e3 : Hx.mnAt L i = y.x.mn := by unfold Hx.mnAt; rw [unhide HY]
                rw [← unhide HI, if_pos e1, ← unhide HL1, ← hj, ← haj, e2, e3]
              have HGC : Hid (∀ w', Calls Tryd.prog 41 #[.int .i64 lw1, .int .i64 (aj + (J : Int) + (z.x.hi : Int) + (y.x.mn : Int))] w' fun e w2 => e = .returned (.int .i64 lw2) ∧ w2 = w') := fun w' => by have h := kgreater_any lw1 (aj + (J : Int) + (z.x.hi : Int) + (y.x.mn : Int)) w'; rw [HG] at h; exact h
              have hwI : IntKind.i64.wrap ((i : Int) - 1) = (j : Int) := by
                rw [show (i : Int) - 1 = (j : Int) by omega]
                exact IntWalk.i64_in _ ⟨by omega, by omega⟩
              have hjI : (j : Int) < (n : Int) := by omega
              have hj0 : (0 : Int) ≤ (j : Int) := by omega
              have c1 := hkz.hi
              clear hr hi1 hj hz hkz haj HG
              go_wp2_with fail
              go_quiet ((go_at_call 41; refine Calls.quiet_of_same (unhide HGC _)))
              go_wp2_with fail
              go_meet
              case rel => exact ⟨rfl, (unhide HIN).drewN _⟩
            | false =>
              rw [hr] at x4
              have HG : Hid (lw1 = lw2) := by
                show _ = _
                rw [unhide HL2, unhide HL1]
                unfold Hx.low2
                have e1 : Hx.rsAt L i = false := by unfold Hx.rsAt; rw [unhide HY]; exact hr
                rw [← unhide HI, e1]
                rfl
              clear hr
              go_wp2_with fail
              go_meet
              case rel => exact ⟨by rw [unhide HG], unhide HIN⟩
          case rest =>
          obtain ⟨rfl, hin2⟩ := hcut
          clear HIN x4 p3
          have HIN := hide hin2
          clear hin2
          have p3 : wc.cell? ⟨w.heap.size, 3, none⟩ = some (.slice (some ⟨gs, 0, none⟩) n caps) := blk_cell (unhide HIN).pb 3
          obtain ⟨ra, hra⟩ : ∃ ra, ra = Hx.restAfter L i := ⟨_, rfl⟩
          have HRA := hide hra
          clear hra
          go_upto_region 15 with fail
          go_cut [109] (fun s109 wx => s109 = .bool ra ∧ wc = wx)
          case first =>
            by_cases hi1 : i + 1 < n
            · have hi1I : (i : Int) + 1 < (n : Int) := by omega
              have hi10 : (0 : Int) ≤ (i : Int) + 1 := by omega
              obtain ⟨z, hz, hkz⟩ := unhide HLY (i + 1) hi1
              have HG : Hid (z.x.rest = ra) := by show _ = _; rw [unhide HRA]; unfold Hx.restAfter; rw [hz]
              have z4 : wc.cell? ⟨gs, (i + 1) * 7 + 4, none⟩ = some (.bool z.x.rest) := unhide HCL (i + 1) z hz wc (unhide HIN).be 4 (by omega)
              clear hz hkz hi1
              go_wp2_with fail
              go_meet
              case rel => exact ⟨by rw [unhide HG], rfl⟩
            · have hi1I : ¬ (i : Int) + 1 < (n : Int) := by omega
              have HG : Hid (false = ra) := by
                show _ = _
                rw [unhide HRA]
                unfold Hx.restAfter
                rw [List.getElem?_eq_none (by have := unhide HNL; omega)]
              clear hi1
              go_wp2_with fail
              go_meet
              case rel => exact ⟨by rw [unhide HG], rfl⟩
          case rest =>
          obtain ⟨rfl, rfl⟩ := hcut
          go_upto_if 109 with fail
          go_cut [10] (fun s10 wx => s10 = .int .i64 lw ∧ InQ w gt n #[.int .i64 (J : Int), .int .i64 (K : Int), .int .i64 (D : Int), .slice (some ⟨gs, 0, none⟩) n caps] f wx)
          case first =>
            cases ra with
            | true =>
              obtain ⟨z, hz, _⟩ := Hx.restAfter_lt (unhide HRA).symm
              have hi1 : i + 1 < n := by rw [unhide HNL]; exact Hx.getElem?_lt hz
              obtain ⟨z', hz', hkz⟩ := unhide HLY (i + 1) hi1
              rw [hz] at hz'
              cases hz'
              have hi1I : (i : Int) + 1 < (n : Int) := by omega
              have hi10 : (0 : Int) ≤ (i : Int) + 1 := by omega
              obtain ⟨aj, haj⟩ : ∃ aj, aj = f (i + 1) := ⟨_, rfl⟩
              have t1 : wc.cell? ⟨gt, i + 1, none⟩ = some (.int .i64 aj) := by rw [haj]; exact (unhide HIN).cell hi1
              obtain ⟨a3, a4⟩ := unhide HFB (i + 1) hi1
              rw [← haj] at a3 a4
              have z6 : wc.cell? ⟨gs, (i + 1) * 7 + 6, none⟩ = some (.int .i64 (z.x.mx : Int)) := unhide HCL (i + 1) z hz wc (unhide HIN).be 6 (by omega)
              have x2 : wc.cell? ⟨gs, i * 7 + 2, none⟩ = some (.int .i64 (y.x.lo : Int)) := unhide HCL i y (unhide HY) wc (unhide HIN).be 2 (by omega)
              have p0 : wc.cell? ⟨w.heap.size, 0, none⟩ = some (.int .i64 (J : Int)) := blk_cell (unhide HIN).pb 0
              have HG : (if aj + (J : Int) - (y.x.lo : Int) - (z.x.mx : Int) < lw2 then lw2 else aj + (J : Int) - (y.x.lo : Int) - (z.x.mx : Int)) = lw := by
                rw [unhide HLE]
                unfold Hx.lowE Hx.gtI
                have e2 : Hx.loAt L i = y.x.lo := by unfold Hx.loAt; rw [unhide HY]
                have e3 : Hx.mxAt L (i + 1) = z.x.mx := by unfold Hx.mxAt; rw [hz]
                rw [← unhide HI, if_pos (unhide HRA).symm, ← unhide HL2, ← haj, e2, e3]
              have HGC : Hid (∀ w', Calls Tryd.prog 41 #[.int .i64 lw2, .int .i64 (aj + (J : Int) - (y.x.lo : Int) - (z.x.mx : Int))] w' fun e w2 => e = .returned (.int .i64 lw) ∧ w2 = w') := fun w' => by have h := kgreater_any lw2 (aj + (J : Int) - (y.x.lo : Int) - (z.x.mx : Int)) w'; rw [HG] at h; exact h
              have c1 := hkz.mx
              have w1 : IntKind.i64.wrap (aj + (J : Int) - (y.x.lo : Int)) = aj + (J : Int) - (y.x.lo : Int) := IntWalk.i64_in _ ⟨by omega, by omega⟩
              have w2 : IntKind.i64.wrap (aj + (J : Int) - (y.x.lo : Int) - (z.x.mx : Int)) = aj + (J : Int) - (y.x.lo : Int) - (z.x.mx : Int) := IntWalk.i64_in _ ⟨by omega, by omega⟩
              clear hz hkz haj HG
              go_wp2_with fail
              go_quiet ((go_at_call 41; refine Calls.quiet_of_same (unhide HGC _)))
              go_wp2_with fail
              go_meet
              case rel => exact ⟨rfl, (unhide HIN).drewN _⟩
            | false =>
              have HG : Hid (lw2 = lw) := by
                show _ = _
                rw [unhide HLE, unhide HL2]
                unfold Hx.lowE
                rw [← unhide HI, ← unhide HRA]
                rfl
              go_wp2_with fail
              go_meet
              case rel => exact ⟨by rw [unhide HG], unhide HIN⟩
          case rest =>
          obtain ⟨rfl, hin3⟩ := hcut
          clear HIN p3
          have HIN := hide hin3
          clear hin3
          have t0 : wc.cell? ⟨gt, i, none⟩ = some (.int .i64 ai) := by rw [unhide HAI]; exact (unhide HIN).cell hin
          have tf : wc.frozen? ⟨gt, i, none⟩ = false := (unhide HIN).free i
          by_cases hc : ai < lw
          · have HNF : Hid (Hx.updT f i lw n = 0 ∧ (∀ j, j < n → 0 ≤ Hx.updT f i lw j ∧ Hx.updT f i lw j ≤ (30000 * q + 3000 * (k + 1) : Nat)) ∧ (∀ S : Nat → Int, (∀ i, i < n → 0 ≤ S i) → (∀ j, j < n → Hx.lowE J L o S j ≤ S (o.getD j 0)) → ∀ j, j < n → Hx.updT f i lw j ≤ S j) ∧ (false = true → ∀ j, j < k + 1 → Hx.lowE J L o (Hx.updT f i lw) j ≤ Hx.updT f i lw (o.getD j 0))) := by
              obtain ⟨f1, f2, f3, _⟩ := unhide HF
              have hBB := unhide HBE
              refine ⟨?_, fun j hj => ?_, fun S s1 s2 j hj => ?_, fun h => (by cases h)⟩
              · unfold Hx.updT
                rw [if_neg (by omega)]
                exact f1
              · have := f2 j hj
                unfold Hx.updT
                split
                · constructor <;> omega
                · constructor <;> omega
              · unfold Hx.updT
                split
                · rename_i ej
                  have h1 := unhide HMN f S (f3 S s1 s2) k hklt
                  have h2 := s2 k hklt
                  rw [← unhide HLE] at h1
                  rw [← unhide HI] at h2
                  rw [ej]
                  omega
                · exact f3 S s1 s2 j hj
            have HIN2 := hide ((unhide HIN).set hgtw i lw)
            clear HF HFB
            go_wp2_with fail
            go_roundg (n - (k + 1))
            case measure => omega
            case rel => exact ⟨k + 1, Hx.updT f i lw, false, by omega, rfl, rfl, by go_num, unhide HNF, unhide HIN2⟩
          · have HNF : Hid (f n = 0 ∧ (∀ j, j < n → 0 ≤ f j ∧ f j ≤ (30000 * q + 3000 * (k + 1) : Nat)) ∧ (∀ S : Nat → Int, (∀ i, i < n → 0 ≤ S i) → (∀ j, j < n → Hx.lowE J L o S j ≤ S (o.getD j 0)) → ∀ j, j < n → f j ≤ S j) ∧ (b = true → ∀ j, j < k + 1 → Hx.lowE J L o f j ≤ f (o.getD j 0))) := by
              obtain ⟨f1, f2, f3, f4⟩ := unhide HF
              refine ⟨f1, fun j hj => ?_, f3, fun hb j hj => ?_⟩
              · have := f2 j hj
                constructor <;> omega
              · by_cases e : j = k
                · rw [e, ← unhide HLE, ← unhide HI, ← unhide HAI]
                  omega
                · exact f4 hb j (by omega)
            clear HF HFB
            go_wp2_with fail
            go_roundg (n - (k + 1))
            case measure => omega
            case rel => exact ⟨k + 1, f, b, by omega, rfl, rfl, by go_num, unhide HNF, unhide HIN⟩
        · have hkI : ¬ (k : Int) < (n : Int) := by omega
          have hkn : k = n := by omega
          obtain ⟨f1, f2, f3, f4⟩ := unhide HF
          cases b with
          | true =>
            obtain ⟨m, hm⟩ : ∃ m, m = n - 1 := ⟨_, rfl⟩
            obtain ⟨i, hi⟩ : ∃ i, i = o.getD m 0 := ⟨_, rfl⟩
            have hin : i < n := by rw [hi]; exact unhide HAT m (by omega)
            obtain ⟨y, hy, hks⟩ := unhide HLY i hin
            obtain ⟨ai, hai⟩ : ∃ ai, ai = f i := ⟨_, rfl⟩
            have t0 : wr.cell? ⟨gt, i, none⟩ = some (.int .i64 ai) := by rw [hai]; exact (unhide HIN).cell hin
            have g0 : wr.cell? ⟨go, m, none⟩ = some (.int .i64 (i : Int)) := by rw [hi]; exact unhide HOC m (by omega) wr (unhide HIN).be
            have x3 : wr.cell? ⟨gs, i * 7 + 3, none⟩ = some (.int .i64 (y.x.hi : Int)) := unhide HCL i y hy wr (unhide HIN).be 3 (by omega)
            have p0 : wr.cell? ⟨w.heap.size, 0, none⟩ = some (.int .i64 (J : Int)) := blk_cell (unhide HIN).pb 0
            have p3 : wr.cell? ⟨w.heap.size, 3, none⟩ = some (.slice (some ⟨gs, 0, none⟩) n caps) := blk_cell (unhide HIN).pb 3
            have hwI : IntKind.i64.wrap ((n : Int) - 1) = (m : Int) := by
              rw [show (n : Int) - 1 = (m : Int) by omega]
              exact IntWalk.i64_in _ ⟨by omega, by omega⟩
            have hm0 : (0 : Int) ≤ (m : Int) := by omega
            have hmn : (m : Int) < (n : Int) := by omega
            have hinI : (i : Int) < (n : Int) := by omega
            have hi0 : (0 : Int) ≤ (i : Int) := by omega
            have a3 := f2 i hin
            rw [← hai] at a3
            have b2 := hks.hi
            have HEE : Hid (Hx.EarlP J L o (ai + (J : Int) + (y.x.hi : Int))) := by
              refine unhide HEP f _ f1 (fun i hi => (f2 i hi).1) (fun j hj => f4 rfl j (by omega)) f3 ?_
              have e : Hx.hiAt L i = y.x.hi := by unfold Hx.hiAt; rw [hy]
              rw [← hm, ← hi, ← hai, e]
            have a5 : 0 ≤ ai := a3.1
            have a6 : ai ≤ 1000000 := by omega
            clear f1 f2 f3 f4 a3 hm hi hai hy hks hkn HF
            go_wp2_with fail
            go_quiet (fail)
            go_wp2_with fail
            go_returns
            exact ⟨_, rfl, unhide HEE, by first | exact below_drewN (unhide HIN).be _ | exact (unhide HIN).be⟩
          | false =>
            have HNF : Hid (f n = 0 ∧ (∀ i, i < n → 0 ≤ f i ∧ f i ≤ (30000 * (q + 1) : Nat)) ∧ (∀ S : Nat → Int, (∀ i, i < n → 0 ≤ S i) → (∀ j, j < n → Hx.lowE J L o S j ≤ S (o.getD j 0)) → ∀ i, i < n → f i ≤ S i)) := by
              refine ⟨f1, fun i hi => ?_, f3⟩
              have := f2 i hi
              constructor <;> omega
            clear f1 f2 f3 f4 HF hkn
            go_wp2_with fail
            go_roundg (2 * n + 3 - (q + 1))
            case measure => omega
            case rel => exact ⟨q + 1, f, by omega, rfl, by go_num, unhide HNF, unhide HIN⟩
    · have hqI : ¬ (q : Int) ≤ 2 * (n : Int) + 2 := by omega
      go_wp2_with fail
      go_returns
      exact ⟨-1, rfl, Or.inl rfl, (unhide HIN0).be⟩
end Go.Proofs.YtppcnlkhdgmaiaaDoor
namespace Go.Proofs.YtppcnlkhdgmaiaaDoor
open Go.RowKit

abbrev planH (J K D : Nat) (v : Value) : Array Value := #[.int .i64 (J : Int), .int .i64 (K : Int), .int .i64 (D : Int), v]
theorem eql_nil (a : Option Addr) (n c : Nat) (W : World) : (binOp .eql 49 (.slice a n c) (.slice none 0 0)).run Tryd.prog W = .ok (.bool a.isNone) W := by
  have h := run_equal_slice_nil (P := Tryd.prog) W 49 3 a n c Tryd.underlying49
  simp [binOp, h, Result.andThen, go_sem]
theorem hr0_of {ps : List (List Hx.Stp)} (hf : Hx.Fine ps) : ∀ i y, (Hx.labs ps)[i]? = some y → y.x.rest = true → 1 ≤ i := fun i y hy hr => by
  obtain ⟨_, h, _⟩ := Hx.labs_before hf hy hr
  exact h

set_option maxRecDepth 100000 in
set_option maxHeartbeats 4000000 in
theorem kbest_any (sJ sK sD : Int) (sv : Value) (qs : List (List Hx.Raw)) (pv : Value) (zs : List Int) (w : World) (h1 : I64 sJ) (h2 : I64 sK) (h3 : I64 sD) (hq : RowsR w sv qs) (hz : IntsR w pv zs) (hE : PlE w) :
    Calls Tryd.prog 5 #[shapeV sJ sK sD sv, pv] w fun e w' => e = .returned (.bool true) ∧ Below w.heap.size w w' := by
  obtain ⟨ao, cap, rfl⟩ : ∃ ao cap, sv = .slice ao qs.length cap := by obtain ⟨ao, cap, e, _⟩ := hq; exact ⟨ao, cap, e⟩
  have HB0 := hide (belA (.cells (shapeA sJ sK sD (.slice ao qs.length cap)) 24) (Below.refl w.heap.size w))
  have HS0 := hide (blk_new w (shapeA sJ sK sD (.slice ao qs.length cap)) 24)
  have HE0 := hide (lasts_ple.alloc hE (.cells (shapeA sJ sK sD (.slice ao qs.length cap)) 24))
  have HQ := hide hq
  have hgs := Hx.shapeP_good qs
  have lJ := Hx.pickN_lt sJ (n := 10) (by omega)
  have lK := Hx.pickN_lt sK (n := 3) (by omega)
  have lD := Hx.pickN_lt sD (n := 1000) (by omega)
  have HPO : Hid (∀ w', RowsR w' (.slice ao qs.length cap) qs → Calls Tryd.prog 12 #[shapeV sJ sK sD (.slice ao qs.length cap)] w' fun e w2 => ∃ v, e = .returned (planV (Hx.pickN sJ 10) (1 + Hx.pickN sK 3) (Hx.pickN sD 1000) v) ∧ w2.ownsRow 0 39 7 v (Hx.labs (Hx.shapeP qs)).length (ksCells (Hx.labs (Hx.shapeP qs))) ∧ Below w'.heap.size w' w2) := fun w' h => plan_of_any sJ sK sD _ qs w' h1 h2 h3 h
  generalize Hx.shapeP qs = ps at HPO hgs
  generalize Hx.pickN sJ 10 = J at HPO lJ
  obtain ⟨K, hK⟩ : ∃ K, K = 1 + Hx.pickN sK 3 := ⟨_, rfl⟩
  rw [← hK] at HPO
  generalize Hx.pickN sD 1000 = D at HPO lD
  have hK1 : 1 ≤ K := by omega
  have hK9 : K < 10 := by omega
  have hg : Hx.GoodP J K D ps := hgs.good lJ hK1 hK9 (by omega)
  have HGS := hide hgs
  have hnpos := Hx.labs_some hg
  have hn9 := hgs.nine
  obtain ⟨n, hn⟩ : ∃ n, n = (Hx.labs ps).length := ⟨_, rfl⟩
  obtain ⟨s, hs⟩ : ∃ s : ByteArray, s = ⟨(Hx.textL J K D (Hx.labs ps)).toArray⟩ := ⟨_, rfl⟩
  obtain ⟨_, ht2⟩ := Hx.text_is hgs lJ hK1 hK9 (by omega) hs
  have HTX : Hid (∀ v w', w'.ownsRow 0 39 7 v (Hx.labs ps).length (ksCells (Hx.labs ps)) → Calls Tryd.prog 13 #[planV J K D v] w' fun e w2 => e = .returned (.string s) ∧ Below w'.heap.size w' w2) := fun v w' h => by rw [hs]; exact textof_any J K D ps v w' lJ hK9 (by omega) hgs h
  have HTI : Hid (∀ v w', w'.ownsRow 0 39 7 v (Hx.labs ps).length (ksCells (Hx.labs ps)) → Calls Tryd.prog 17 #[planV J K D v] w' fun e w2 => e = .returned (.int .i64 (Hx.tightI J (Hx.labs ps))) ∧ Below w'.heap.size w' w2) := fun v w' h => tight_any J K D (Hx.labs ps) v w' (by omega) hgs.ks hnpos (by omega) (Hx.tight0 hgs) h
  have HOR : Hid (∀ v w', w'.ownsRow 0 39 7 v (Hx.labs ps).length (ksCells (Hx.labs ps)) → IntsR w' pv zs → Calls Tryd.prog 24 #[planV J K D v, pv] w' (OrdRes K (Hx.labs ps) w')) := fun v w' h g => order_any J K D (Hx.labs ps) zs v pv w' hgs.ks hnpos hn9 h g
  have HEA : Hid (∀ v w' (o : List Nat) ov, w'.ownsRow 0 39 7 v (Hx.labs ps).length (ksCells (Hx.labs ps)) → o.length = (Hx.labs ps).length → (∀ i ∈ o, i < (Hx.labs ps).length) → w'.ownsRow 0 3 1 ov o.length (ints (nats o)) → Calls Tryd.prog 25 #[planV J K D v, ov] w' fun e w2 => ∃ r, e = .returned (.int .i64 r) ∧ Hx.EarlP J (Hx.labs ps) o r ∧ Below w'.heap.size w' w2) := fun v w' o ov h e g hoo => earliest_any J K D (Hx.labs ps) o v ov w' lJ hgs.ks hnpos hn9 e g (hr0_of hg.fine) h hoo
  obtain ⟨ua, xa, ea, hA⟩ : ∃ ua xa ea, Hx.planS J K D ps 1000 = (ua, xa, ea) := ⟨_, _, _, rfl⟩
  have HLA : Hid (s.size ≤ 120 → ∀ w', PlE w' → Calls Tryd.prog 16 #[.string s, .int .i64 1000] w' fun e w2 => e = .returned (.tuple #[.string ⟨ua.toArray⟩, .bool xa, .int .i64 ea]) ∧ Below w'.heap.size w' w2) := fun h120 w' h => plans_any J K D ps (ht2 h120) _ _ _ _ hA w' (by unfold maxLen; omega) h
  obtain ⟨ti, hti⟩ : ∃ ti, ti = Hx.tightI J (Hx.labs ps) := ⟨_, rfl⟩
  have HTC : Hid ((∃ i : Nat, ti = (i : Int)) ∨ ti = -1) := by
    show _ ∨ _
    rw [hti]
    rcases Hx.tightI_cases J (Hx.labs ps) with ⟨i, hi, _, ht⟩ | ⟨_, ht⟩
    · exact Or.inl ⟨i, ht⟩
    · exact Or.inr ht
  have HBP : Hid (ti = -1 → ∀ (o : List Nat) (r : Int), o.length = (Hx.labs ps).length → (Hx.endS K (Hx.labs ps) o 0 (fun _ => 0)).isSome = true → (∀ i ∈ o, i < (Hx.labs ps).length) → Hx.EarlP J (Hx.labs ps) o r → Hx.BestP J K D ps r (ua, xa, ea)) := fun h o r e1 e2 e3 e4 => by
    have hm : o ∈ Hx.allO K (Hx.labs ps) (Hx.labs ps).length [] := Hx.allO_mem (Hx.labs ps).length [] o e1 e2 e3
    rw [← hA]
    exact Hx.best_is hg (by rw [← hti]; exact h) hm (Hx.earl_cand hg hm e4)
  rw [← hti] at HTI
  have HZ := hide hz
  have HN := hide hn
  rw [← hn] at HPO HTX HTI HOR HEA HBP hnpos hn9
  clear hA ht2 hs hq hgs hg hK h1 h2 h3 hE hti hn hz HGS
  go_enter Tryd.func5, Tryd.ntmps5
  go_upto_region 1 with fail
  generalize w.alloc (.cells (shapeA sJ sK sD (.slice ao qs.length cap)) 24) = W1 at HB0 HS0 HE0 ⊢
  go_wp2_with fail
  refine (planned_ple W1 (unhide HE0)).mono ?_
  rintro e w1 ⟨rfl, hb1⟩
  have HE1 := hide (lasts_ple _ _ (unhide HE0) hb1)
  have HB1 := hide ((unhide HB0).trans (hb1.mono (unhide HB0).size))
  have HS1 := hide ((hb1.block _ (lt_of_block (unhide HS0))).trans (unhide HS0))
  clear hb1 HB0 HS0 HE0
  have c0 : w1.cell? ⟨w.heap.size, 0, none⟩ = some (.int .i64 sJ) := blk_cell (unhide HS1) 0
  have c1 : w1.cell? ⟨w.heap.size, 1, none⟩ = some (.int .i64 sK) := blk_cell (unhide HS1) 1
  have c2 : w1.cell? ⟨w.heap.size, 2, none⟩ = some (.int .i64 sD) := blk_cell (unhide HS1) 2
  have c3 : w1.cell? ⟨w.heap.size, 3, none⟩ = some (.slice ao qs.length cap) := blk_cell (unhide HS1) 3
  go_wp2_with fail
  refine (unhide HPO w1 ((unhide HQ).below (unhide HB1) (Nat.le_refl _))).mono ?_
  rintro e w2 ⟨v2, rfl, ho2, hb2⟩
  obtain ⟨gs, caps, rfl, _, hgsz⟩ := own_pos ho2 hnpos
  have HE2 := hide (lasts_ple.alloc (lasts_ple _ _ (unhide HE1) hb2) (.cells (planH J K D (.slice (some ⟨gs, 0, none⟩) n caps)) 28))
  have HB2 := hide (belA (.cells (planH J K D (.slice (some ⟨gs, 0, none⟩) n caps)) 28) ((unhide HB1).trans (hb2.mono (unhide HB1).size)))
  have HO2 := hide (own_below ho2 (belA (.cells (planH J K D (.slice (some ⟨gs, 0, none⟩) n caps)) 28) (Below.refl _ _)))
  have HP2 := hide (blk_new w2 (planH J K D (.slice (some ⟨gs, 0, none⟩) n caps)) 28)
  clear hb2 ho2 HE1 HB1 HPO HQ HS1 c0 c1 c2 c3 hgsz
  go_upto_region 5 with fail
  obtain ⟨pb, hpb⟩ : ∃ pb, pb = w2.heap.size := ⟨_, rfl⟩
  rw [← hpb] at HP2 ⊢
  generalize w2.alloc (.cells (planH J K D (.slice (some ⟨gs, 0, none⟩) n caps)) 28) = W2 at HE2 HB2 HO2 HP2 ⊢
  clear hpb
  have p0 : W2.cell? ⟨pb, 0, none⟩ = some (.int .i64 (J : Int)) := blk_cell (unhide HP2) 0
  have p1 : W2.cell? ⟨pb, 1, none⟩ = some (.int .i64 (K : Int)) := blk_cell (unhide HP2) 1
  have p2 : W2.cell? ⟨pb, 2, none⟩ = some (.int .i64 (D : Int)) := blk_cell (unhide HP2) 2
  have p3 : W2.cell? ⟨pb, 3, none⟩ = some (.slice (some ⟨gs, 0, none⟩) n caps) := blk_cell (unhide HP2) 3
  go_wp2_with fail
  refine (unhide HTX _ W2 (unhide HO2)).mono ?_
  rintro e w3 ⟨rfl, hb3⟩
  have HE3 := hide (lasts_ple _ _ (unhide HE2) hb3)
  have HB3 := hide ((unhide HB2).trans (hb3.mono (unhide HB2).size))
  have HO3 := hide (own_below (unhide HO2) hb3)
  have HP3 := hide ((hb3.block _ (lt_of_block (unhide HP2))).trans (unhide HP2))
  clear hb3 HE2 HB2 HTX HO2 HP2 p0 p1 p2 p3
  have p0 : w3.cell? ⟨pb, 0, none⟩ = some (.int .i64 (J : Int)) := blk_cell (unhide HP3) 0
  have p1 : w3.cell? ⟨pb, 1, none⟩ = some (.int .i64 (K : Int)) := blk_cell (unhide HP3) 1
  have p2 : w3.cell? ⟨pb, 2, none⟩ = some (.int .i64 (D : Int)) := blk_cell (unhide HP3) 2
  have p3 : w3.cell? ⟨pb, 3, none⟩ = some (.slice (some ⟨gs, 0, none⟩) n caps) := blk_cell (unhide HP3) 3
  go_wp2_with fail
  refine (unhide HTI _ w3 (unhide HO3)).mono ?_
  rintro e w4 ⟨rfl, hb4⟩
  have HE4 := hide (lasts_ple _ _ (unhide HE3) hb4)
  have HB4 := hide ((unhide HB3).trans (hb4.mono (unhide HB3).size))
  have HO4 := hide (own_below (unhide HO3) hb4)
  have HP4 := hide ((hb4.block _ (lt_of_block (unhide HP3))).trans (unhide HP3))
  clear hb4 HE3 HB3 HTI HO3 HP3 p0 p1 p2 p3
  by_cases hbad : 120 < s.size ∨ ∃ i : Nat, ti = (i : Int)
  · rcases Nat.lt_or_ge 120 s.size with h | h
    · have hI : (120 : Int) < (s.size : Int) := by omega
      clear hbad
      go_wp2_with fail
      go_returns
      exact ⟨rfl, unhide HB4⟩
    · obtain ⟨i, rfl⟩ : ∃ i : Nat, ti = (i : Int) := hbad.resolve_left (by omega)
      have hi0 : (0 : Int) ≤ (i : Int) := by omega
      have hid : decide ((0 : Int) ≤ (i : Int)) = true := decide_eq_true hi0
      have hI : ¬ (120 : Int) < (s.size : Int) := by omega
      clear hbad
      go_wp2_with fail
      go_returns
      exact ⟨rfl, unhide HB4⟩
  · have h120 : s.size ≤ 120 := Nat.le_of_not_lt fun h => hbad (Or.inl h)
    have hti : ti = -1 := by
      rcases unhide HTC with h | h
      · exact absurd (Or.inr h) hbad
      · exact h
    have HBP2 := hide (unhide HBP hti)
    subst hti
    have hI : ¬ (120 : Int) < (s.size : Int) := by omega
    have CA := hide (unhide HLA h120)
    clear hbad HLA HBP HTC h120
    have p0 : w4.cell? ⟨pb, 0, none⟩ = some (.int .i64 (J : Int)) := blk_cell (unhide HP4) 0
    have p1 : w4.cell? ⟨pb, 1, none⟩ = some (.int .i64 (K : Int)) := blk_cell (unhide HP4) 1
    have p2 : w4.cell? ⟨pb, 2, none⟩ = some (.int .i64 (D : Int)) := blk_cell (unhide HP4) 2
    have p3 : w4.cell? ⟨pb, 3, none⟩ = some (.slice (some ⟨gs, 0, none⟩) n caps) := blk_cell (unhide HP4) 3
    go_wp2_with fail
    refine (unhide HOR _ w4 (unhide HO4) ((unhide HZ).below (unhide HB4) (Nat.le_refl _))).mono ?_
    rintro e w5 ⟨v5, rfl, hres, hb5⟩
    have HE5 := hide (lasts_ple _ _ (unhide HE4) hb5)
    have HB5 := hide ((unhide HB4).trans (hb5.mono (unhide HB4).size))
    have HO5 := hide (own_below (unhide HO4) hb5)
    have HP5 := hide ((hb5.block _ (lt_of_block (unhide HP4))).trans (unhide HP4))
    clear hb5 HE4 HB4 HO4 HP4 HOR p0 p1 p2 p3
    rcases hres with rfl | ⟨o, hol, hoe, hoi, hoo⟩
    · have heq : ∀ W : World, (binOp .eql 49 (.slice none 0 0) (.slice none 0 0)).run Tryd.prog W = .ok (.bool true) W := fun W => eql_nil none 0 0 W
      go_wp2_with fail
      go_returns
      exact ⟨rfl, unhide HB5⟩
    · have HOL := hide hol
      have HOE := hide hoe
      have HOI := hide hoi
      rw [← unhide HN] at hol
      obtain ⟨go, capo, rfl, _, _⟩ := own_pos hoo (by omega)
      have HOO := hide hoo
      have heq : ∀ W : World, (binOp .eql 49 (.slice (some ⟨go, 0, none⟩) o.length capo) (.slice none 0 0)).run Tryd.prog W = .ok (.bool false) W := fun W => eql_nil (some ⟨go, 0, none⟩) o.length capo W
      clear hol hoe hoi hoo
      have p0 : w5.cell? ⟨pb, 0, none⟩ = some (.int .i64 (J : Int)) := blk_cell (unhide HP5) 0
      have p1 : w5.cell? ⟨pb, 1, none⟩ = some (.int .i64 (K : Int)) := blk_cell (unhide HP5) 1
      have p2 : w5.cell? ⟨pb, 2, none⟩ = some (.int .i64 (D : Int)) := blk_cell (unhide HP5) 2
      have p3 : w5.cell? ⟨pb, 3, none⟩ = some (.slice (some ⟨gs, 0, none⟩) n caps) := blk_cell (unhide HP5) 3
      go_wp2_with fail
      refine (unhide HEA _ w5 o _ (unhide HO5) (by rw [unhide HN]; exact unhide HOL) (by rw [unhide HN]; exact unhide HOI) (unhide HOO)).mono ?_
      rintro e w6 ⟨r, rfl, hearl, hb6⟩
      have HE6 := hide (lasts_ple _ _ (unhide HE5) hb6)
      have HB6 := hide ((unhide HB5).trans (hb6.mono (unhide HB5).size))
      have HP6 := hide ((hb6.block _ (lt_of_block (unhide HP5))).trans (unhide HP5))
      have hbp := unhide HBP2 o r (by rw [unhide HN]; exact unhide HOL) (unhide HOE) (by rw [unhide HN]; exact unhide HOI) hearl
      have HBEST := hide hbp
      clear hb6 HE5 HB5 HO5 HP5 HEA p0 p1 p2 p3 hearl hbp HOL HOE HOI HOO HBP2
      go_wp2_with fail
      refine (unhide CA _ (unhide HE6)).mono ?_
      rintro e w7 ⟨rfl, hb7⟩
      have HB7 := hide ((unhide HB6).trans (hb7.mono (unhide HB6).size))
      have HP7 := hide ((hb7.block _ (lt_of_block (unhide HP6))).trans (unhide HP6))
      clear hb7 HE6 HB6 HP6 CA
      rcases (unhide HBEST).err with h | h | h
      all_goals
        have h : ea = _ := h
        subst h
      · obtain ⟨e0, o', f', t1, hall, hle⟩ := (unhide HBEST).ok rfl
        have T1 := hide t1
        have hall : xa = true ∨ 6 < (Hx.labs ps).length := hall
        have hle : xa = false ∨ r < 0 ∨ e0 ≤ r := hle
        rw [← unhide HN] at hall
        clear t1 HBEST
        go_wp2_with fail
        refine (told_any (unhide T1) _).mono ?_
        rintro e w8 ⟨hb8, v8, rfl, ho8⟩
        have HB8 := hide ((unhide HB7).trans (hb8.mono (unhide HB7).size))
        have HP8 := hide ((hb8.block _ (lt_of_block (unhide HP7))).trans (unhide HP7))
        have HO8 := hide ho8
        clear hb8 ho8 HB7 HP7
        have p3 : w8.cell? ⟨pb, 3, none⟩ = some (.slice (some ⟨gs, 0, none⟩) n caps) := blk_cell (unhide HP8) 3
        cases xa with
        | false =>
          have h6 : (6 : Int) < (n : Int) := by
            rcases hall with h | h
            · cases h
            · omega
          clear hall hle
          go_wp2_with fail
          go_returns
          exact ⟨rfl, unhide HB8⟩
        | true =>
          have hle2 : r < 0 ∨ (¬ r < 0 ∧ e0 ≤ r) := by
            rcases hle with h | h | h
            · cases h
            · exact Or.inl h
            · by_cases hr : r < 0
              · exact Or.inl hr
              · exact Or.inr ⟨hr, h⟩
          clear hall hle
          rcases hle2 with hr | ⟨hr, he⟩
          · have hrD : decide (r < 0) = true := decide_eq_true hr
            go_wp2_with fail
            go_returns
            exact ⟨rfl, unhide HB8⟩
          · have hrD : decide (r < 0) = false := decide_eq_false hr
            have heD : decide (e0 ≤ r) = true := decide_eq_true he
            go_wp2_with fail
            refine (told_over (unhide T1) v8 _ (unhide HO8)).mono ?_
            rintro e w9 ⟨rfl, hd9⟩
            have HB9 := hide (hd9.below (unhide HB8))
            clear hd9 HB8 HO8
            go_wp2_with fail
            go_returns
            refine ⟨?_, unhide HB9⟩
            first | rfl | simp [he] | simp [heD]
      · obtain ⟨hu, hr⟩ := (unhide HBEST).none rfl
        have hu : ua = [] := hu
        subst hu
        clear HBEST
        go_wp2_with fail
        refine (entries_any ⟨([] : List UInt8).toArray⟩ _ (by decide)).mono ?_
        rintro e w8 ⟨hb8, v8, rfl, _, _⟩
        have HB8 := hide ((unhide HB7).trans (hb8.mono (unhide HB7).size))
        have HP8 := hide ((hb8.block _ (lt_of_block (unhide HP7))).trans (unhide HP7))
        clear hb8 HB7 HP7
        have p2 : w8.cell? ⟨pb, 2, none⟩ = some (.int .i64 (D : Int)) := blk_cell (unhide HP8) 2
        by_cases hr0 : r < 0
        · have hrD : decide (r < 0) = true := decide_eq_true hr0
          clear hr
          go_wp2_with fail
          go_returns
          exact ⟨rfl, unhide HB8⟩
        · have hrD : decide (r < 0) = false := decide_eq_false hr0
          have hDr : (D : Int) < r := by
            rcases hr with h | h
            · exact absurd h hr0
            · exact h
          have hDD : decide ((D : Int) < r) = true := decide_eq_true hDr
          clear hr
          go_wp2_with fail
          go_returns
          refine ⟨?_, unhide HB8⟩
          first | rfl | simp [hDr]
      · obtain ⟨hu, h6⟩ := (unhide HBEST).spent rfl
        have hu : ua = [] := hu
        subst hu
        rw [← unhide HN] at h6
        have h6I : (6 : Int) < (n : Int) := by omega
        clear HBEST h6
        go_wp2_with fail
        refine (entries_any ⟨([] : List UInt8).toArray⟩ _ (by decide)).mono ?_
        rintro e w8 ⟨hb8, v8, rfl, _, _⟩
        have HB8 := hide ((unhide HB7).trans (hb8.mono (unhide HB7).size))
        have HP8 := hide ((hb8.block _ (lt_of_block (unhide HP7))).trans (unhide HP7))
        clear hb8 HB7 HP7
        have p3 : w8.cell? ⟨pb, 3, none⟩ = some (.slice (some ⟨gs, 0, none⟩) n caps) := blk_cell (unhide HP8) 3
        go_wp2_with fail
        go_returns
        exact ⟨rfl, unhide HB8⟩
end Go.Proofs.YtppcnlkhdgmaiaaDoor
