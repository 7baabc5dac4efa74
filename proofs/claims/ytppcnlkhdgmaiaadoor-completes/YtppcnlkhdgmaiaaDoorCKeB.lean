/- What Patient answers. The plain mathematics of Completes: the script is read back; over a timetable whose times hold the machine ends done. The plain mathematics of a clock that goes on for longer: what has ended stays, what was open goes on from what was told; and that a script with a longer clock is read as such. No program is named here. The plain mathematics of texts that are put together: their bytes; two scripts of which one has the longer clock. No program is named here. What hatchkeep's cut does. hatchkeep's ran: the document's two examples of Run; what Onward answers. -/
import Derived.Test.YtppcnlkhdgmaiaaDoorCKpB2
import Derived.Test.YtppcnlkhdgmaiaaDoorCKdW
import Derived.Test.YtppcnlkhdgmaiaaDoorCRrB
import Derived.Test.YtppcnlkhdgmaiaaDoorCTb
import Derived.Test.YtppcnlkhdgmaiaaDoorCRrC
import Derived.Test.YtppcnlkhdgmaiaaDoorCPz
import Derived.Test.YtppcnlkhdgmaiaaDoorCRdD
import Derived.Deep.LoopGhost
import Derived.Handy
import Derived.Test.YtppcnlkhdgmaiaaDoorCMt
namespace Go.Proofs.YtppcnlkhdgmaiaaDoor
open Go.RowKit

/-- A plan's text, as hatchkeep makes it. -/
theorem textof_any (J K D : Nat) (ps : List (List Hx.Stp)) (v : Value) (w : World) (hJ : J < 10) (hK : K < 10) (hD : D < 10000) (hs : Hx.GoodS ps)
    (ho : w.ownsRow 0 39 7 v (Hx.labs ps).length (ksCells (Hx.labs ps))) :
    Calls Tryd.prog 13 #[planV J K D v] w fun e w' => e = .returned (.string ⟨(Hx.textL J K D (Hx.labs ps)).toArray⟩) ∧ Below w.heap.size w w' :=
  text_any J K D _ v w (by omega) (by omega) (by omega) hs.ks (by have := hs.nine; omega) ho
theorem plans_any {s : ByteArray} (J K D : Nat) (ps : List (List Hx.Stp)) (hg : ∀ N, Hx.planF s N = Hx.planS J K D ps N) (N : Int) (u : List UInt8) (x : Bool) (e : Int) (hp : Hx.planS J K D ps N = (u, x, e)) (w : World) (hs : s.size ≤ maxLen) (h : PlE w) :
    Calls Tryd.prog 16 #[.string s, .int .i64 N] w fun e' w2 => e' = .returned (.tuple #[.string ⟨u.toArray⟩, .bool x, .int .i64 e]) ∧ Below w.heap.size w w2 := by
  have := plan_any s N w hs h.1 h.2
  rw [hg N, hp] at this
  exact this
/-- The entries of what Plan has told. -/
theorem told_any {J K D : Nat} {ps : List (List Hx.Stp)} {u : List UInt8} {e : Int} {o : List Nat} {f : Nat → Int} (h : Hx.Told J K D ps u e o f) (w : World) :
    Calls Tryd.prog 19 #[.string ⟨u.toArray⟩] w fun e' w' => Below w.heap.size w w' ∧ ∃ v, e' = .returned (.tuple #[v, .int .i64 (J : Int), .bool true]) ∧ w'.ownsRow 0 55 9 v ((Hx.ttab ps o f).map Hx.entOf).length (entsCells ((Hx.ttab ps o f).map Hx.entOf)) := by
  obtain ⟨h1, h2, h3⟩ := h.scan
  refine (entries_any ⟨u.toArray⟩ w (Nat.le_trans h.size (by omega))).mono ?_
  rintro e' w' ⟨hb, v, he, ho, _⟩
  rw [h1, h2] at he
  rw [h3] at ho
  exact ⟨hb, v, he, own_mono ho (Nat.zero_le _)⟩
theorem told_over {J K D : Nat} {ps : List (List Hx.Stp)} {u : List UInt8} {e : Int} {o : List Nat} {f : Nat → Int} (h : Hx.Told J K D ps u e o f) (v : Value) (w : World)
    (ho : w.ownsRow 0 55 9 v ((Hx.ttab ps o f).map Hx.entOf).length (entsCells ((Hx.ttab ps o f).map Hx.entOf))) :
    Calls Tryd.prog 23 #[v, .int .i64 (J : Int)] w fun e' w' => e' = .returned (.int .i64 e) ∧ Dr w w' := by
  have h1 := h.tm.good.all
  have h2 := h.tm.len
  have := kover_any ((Hx.ttab ps o f).map Hx.entOf) J v w (by have := h.tm.good.j; omega) (Hx.ents_small h.tm.right.ok) (by rw [List.length_map, Hx.ttab_len]; omega) ho
  rw [h.over] at this
  exact this

set_option maxRecDepth 100000 in
set_option maxHeartbeats 4000000 in
theorem patient_any (sJ sK sD lo hi : Int) (sv : Value) (qs : List (List Hx.Raw)) (w : World) (h1 : I64 sJ) (h2 : I64 sK) (h3 : I64 sD) (h4 : I64 lo) (h5 : I64 hi) (hq : RowsR w sv qs) (hE : PlE w) :
    Calls Tryd.prog 6 #[shapeV sJ sK sD sv, .int .i64 lo, .int .i64 hi] w fun e w' => e = .returned (.bool true) ∧ Below w.heap.size w w' := by
  obtain ⟨ao, cap, rfl⟩ : ∃ ao cap, sv = .slice ao qs.length cap := by obtain ⟨ao, cap, e, _⟩ := hq; exact ⟨ao, cap, e⟩
  have HB0 := hide (belA (.cells (shapeA sJ sK sD (.slice ao qs.length cap)) 24) (Below.refl w.heap.size w))
  have HS0 := hide (blk_new w (shapeA sJ sK sD (.slice ao qs.length cap)) 24)
  have HE0 := hide (lasts_ple.alloc hE (.cells (shapeA sJ sK sD (.slice ao qs.length cap)) 24))
  have HQ := hide hq
  have hgs := Hx.shapeP_good qs
  have lJ := Hx.pickN_lt sJ (n := 10) (by omega)
  have lK := Hx.pickN_lt sK (n := 3) (by omega)
  have lD := Hx.pickN_lt sD (n := 1000) (by omega)
  have HPO : Hid (∀ w', RowsR w' (.slice ao qs.length cap) qs → Calls Tryd.prog 12 #[shapeV sJ sK sD (.slice ao qs.length cap)] w' fun e w2 => ∃ v, e = .returned (planV (Hx.pickN sJ 10) (1 + Hx.pickN sK 3) (Hx.pickN sD 1000) v) ∧ w2.ownsRow 0 39 7 v (Hx.labs (Hx.shapeP qs)).length (ksCells (Hx.labs (Hx.shapeP qs))) ∧ Below w'.heap.size w' w2) := fun w' h => plan_of_any sJ sK sD _ qs w' h1 h2 h3 h
  generalize Hx.shapeP qs = ps at HPO hgs
  generalize Hx.pickN sJ 10 = J at HPO lJ
  obtain ⟨K, hK⟩ : ∃ K, K = 1 + Hx.pickN sK 3 := ⟨_, rfl⟩
  rw [← hK] at HPO
  generalize Hx.pickN sD 1000 = D at HPO lD
  have hK1 : 1 ≤ K := by omega
  have hK9 : K < 10 := by omega
  have hg : Hx.GoodP J K D ps := hgs.good lJ hK1 hK9 (by omega)
  obtain ⟨s, hs⟩ : ∃ s : ByteArray, s = ⟨(Hx.textL J K D (Hx.labs ps)).toArray⟩ := ⟨_, rfl⟩
  obtain ⟨_, ht2⟩ := Hx.text_is hgs lJ hK1 hK9 (by omega) hs
  have HTX : Hid (∀ v w', w'.ownsRow 0 39 7 v (Hx.labs ps).length (ksCells (Hx.labs ps)) → Calls Tryd.prog 13 #[planV J K D v] w' fun e w2 => e = .returned (.string s) ∧ Below w'.heap.size w' w2) := fun v w' h => by rw [hs]; exact textof_any J K D ps v w' lJ hK9 (by omega) hgs h
  have la := Hx.pickN_lt lo (n := 1001) (by omega)
  have HPA : Hid (∀ w', Calls Tryd.prog 15 #[.int .i64 lo, .int .i64 1001] w' fun e w2 => e = .returned (.int .i64 (Hx.pickN lo 1001 : Int)) ∧ w' = w2) := fun w' => (pick_any lo 1001 w' h4.1 h4.2 (by omega) (by omega)).mono (fun e w2 h => ⟨h.1, h.2.symm⟩)
  have HPC : Hid (∀ w', Calls Tryd.prog 15 #[.int .i64 lo, .int .i64 1073741824] w' fun e w2 => e = .returned (.int .i64 (Hx.pickN lo 1073741824 : Int)) ∧ w' = w2) := fun w' => (pick_any lo 1073741824 w' h4.1 h4.2 (by omega) (by omega)).mono (fun e w2 h => ⟨h.1, h.2.symm⟩)
  have lc := Hx.pickN_lt lo (n := 1073741824) (by omega)
  generalize Hx.pickN lo 1001 = a at HPA la
  generalize Hx.pickN lo 1073741824 = c at HPC lc
  have lb := Hx.pickN_lt hi (n := 1001 - a) (by omega)
  have HPB : Hid (∀ w' (nI : Int), nI = 1001 - (a : Int) → Calls Tryd.prog 15 #[.int .i64 hi, .int .i64 nI] w' fun e w2 => e = .returned (.int .i64 (Hx.pickN hi (1001 - a) : Int)) ∧ w' = w2) := fun w' nI hn => by
    rw [show nI = ((1001 - a : Nat) : Int) by omega]
    exact (pick_any hi (1001 - a) w' h5.1 h5.2 (by omega) (by omega)).mono (fun e w2 h => ⟨h.1, h.2.symm⟩)
  generalize Hx.pickN hi (1001 - a) = b0 at HPB lb
  obtain ⟨b, hb⟩ : ∃ b, b = a + b0 := ⟨_, rfl⟩
  have hpat := Hx.patient_is hg (a := a) (b := b) (by omega) (by omega)
  have HPN : Hid (∀ N : Int, N < 0 → Hx.planS J K D ps N = ([], false, 5)) := fun N hN => by unfold Hx.planS; rw [if_pos (Or.inl hN)]
  obtain ⟨ua, xa, ea, hA⟩ : ∃ ua xa ea, Hx.planS J K D ps (a : Int) = (ua, xa, ea) := ⟨_, _, _, rfl⟩
  obtain ⟨ub, xb, eb, hB⟩ : ∃ ub xb eb, Hx.planS J K D ps (b : Int) = (ub, xb, eb) := ⟨_, _, _, rfl⟩
  rw [hA, hB] at hpat
  have HPAT := hide hpat
  have HLA : Hid (s.size ≤ 120 → ∀ w', PlE w' → Calls Tryd.prog 16 #[.string s, .int .i64 (a : Int)] w' fun e w2 => e = .returned (.tuple #[.string ⟨ua.toArray⟩, .bool xa, .int .i64 ea]) ∧ Below w'.heap.size w' w2) := fun h120 w' h => plans_any J K D ps (ht2 h120) _ _ _ _ hA w' (by unfold maxLen; omega) h
  have HLB : Hid (s.size ≤ 120 → ∀ w' (nI : Int), nI = (a : Int) + (b0 : Int) → PlE w' → Calls Tryd.prog 16 #[.string s, .int .i64 nI] w' fun e w2 => e = .returned (.tuple #[.string ⟨ub.toArray⟩, .bool xb, .int .i64 eb]) ∧ Below w'.heap.size w' w2) := fun h120 w' nI hn h => by
    rw [show nI = (b : Int) by omega]
    exact plans_any J K D ps (ht2 h120) _ _ _ _ hB w' (by unfold maxLen; omega) h
  have HLC : Hid (s.size ≤ 120 → ∀ w' (nI : Int), nI < 0 → PlE w' → Calls Tryd.prog 16 #[.string s, .int .i64 nI] w' fun e w2 => e = .returned (.tuple #[.string ⟨([] : List UInt8).toArray⟩, .bool false, .int .i64 5]) ∧ Below w'.heap.size w' w2) := fun h120 w' nI hn h => plans_any J K D ps (ht2 h120) _ _ _ _ (unhide HPN nI hn) w' (by unfold maxLen; omega) h
  clear hpat hA hB ht2 hs hq hgs hg hK HPN h1 h2 h3 h4 h5 hE
  have HBB := hide hb
  clear hb
  go_enter Tryd.func6, Tryd.ntmps6
  go_upto_region 1 with fail
  generalize w.alloc (.cells (shapeA sJ sK sD (.slice ao qs.length cap)) 24) = W1 at HB0 HS0 HE0 ⊢
  go_wp2_with fail
  refine (planned_ple W1 (unhide HE0)).mono ?_
  rintro e w1 ⟨rfl, hb1⟩
  have HE1 := hide (lasts_ple _ _ (unhide HE0) hb1)
  have HB1 := hide ((unhide HB0).trans (hb1.mono (unhide HB0).size))
  have HS1 := hide ((hb1.block _ (lt_of_block (unhide HS0))).trans (unhide HS0))
  clear hb1 HB0 HS0 HE0
  have c0 : w1.cell? ⟨w.heap.size, 0, none⟩ = some (.int .i64 sJ) := blk_cell (unhide HS1) 0
  have c1 : w1.cell? ⟨w.heap.size, 1, none⟩ = some (.int .i64 sK) := blk_cell (unhide HS1) 1
  have c2 : w1.cell? ⟨w.heap.size, 2, none⟩ = some (.int .i64 sD) := blk_cell (unhide HS1) 2
  have c3 : w1.cell? ⟨w.heap.size, 3, none⟩ = some (.slice ao qs.length cap) := blk_cell (unhide HS1) 3
  go_wp2_with fail
  refine (unhide HPO w1 ((unhide HQ).below (unhide HB1) (Nat.le_refl _))).mono ?_
  rintro e w2 ⟨v2, rfl, ho2, hb2⟩
  have HE2 := hide (lasts_ple _ _ (unhide HE1) hb2)
  have HB2 := hide ((unhide HB1).trans (hb2.mono (unhide HB1).size))
  have HO2 := hide ho2
  clear hb2 ho2 HE1 HB1 HPO HQ HS1 c0 c1 c2 c3
  go_wp2_with fail
  refine (unhide HTX v2 w2 (unhide HO2)).mono ?_
  rintro e w3 ⟨rfl, hb3⟩
  have HE3 := hide (lasts_ple _ _ (unhide HE2) hb3)
  have HB3 := hide ((unhide HB2).trans (hb3.mono (unhide HB2).size))
  clear hb3 HE2 HB2 HTX HO2
  by_cases h120 : s.size ≤ 120
  · have hI : ¬ (120 : Int) < (s.size : Int) := by omega
    have CA := hide (unhide HLA h120)
    have CB := hide (unhide HLB h120)
    have CC := hide (unhide HLC h120)
    clear HLA HLB HLC
    go_wp2_with fail
    refine (unhide HPA _).mono ?_
    rintro e w4 ⟨rfl, rfl⟩
    go_wp2_with fail
    refine (unhide HPB _ _ (by first | rfl | omega)).mono ?_
    rintro e w4 ⟨rfl, rfl⟩
    go_wp2_with fail
    refine (unhide CA _ (unhide HE3)).mono ?_
    rintro e w4 ⟨rfl, hb4⟩
    have HE4 := hide (lasts_ple _ _ (unhide HE3) hb4)
    have HB4 := hide ((unhide HB3).trans (hb4.mono (unhide HB3).size))
    clear hb4 HE3 HB3 CA HPA HPB
    go_wp2_with fail
    refine (unhide CB _ _ (by first | rfl | omega) (unhide HE4)).mono ?_
    rintro e w5 ⟨rfl, hb5⟩
    have HE5 := hide (lasts_ple _ _ (unhide HE4) hb5)
    have HB5 := hide ((unhide HB4).trans (hb5.mono (unhide HB4).size))
    clear hb5 HE4 HB4 CB
    go_wp2_with fail
    refine (unhide HPC _).mono ?_
    rintro e w6 ⟨rfl, rfl⟩
    go_wp2_with fail
    refine (unhide CC _ _ (by omega) (unhide HE5)).mono ?_
    rintro e w6 ⟨rfl, hb6⟩
    have HB6 := hide ((unhide HB5).trans (hb6.mono (unhide HB5).size))
    clear hb6 HE5 HB5 CC HPC
    rcases (unhide HPAT).err with h | h | h | h
    all_goals
      have h : ea = _ := h
      subst h
    · cases xa with
      | true =>
        have hbe := (unhide HPAT).sure rfl rfl
        cases hbe
        go_wp2_with fail
        go_returns
        exact ⟨rfl, unhide HB6⟩
      | false =>
        obtain ⟨hb0, e1, e2, o1, o2, f1, f2, t1, t2, hle⟩ := (unhide HPAT).more rfl rfl
        have hb0 : eb = 0 := hb0
        subst hb0
        have T1 := hide t1
        have T2 := hide t2
        have hle2 : decide (e2 ≤ e1) = true := by simpa using hle
        clear t1 t2 HPAT
        go_wp2_with fail
        refine (told_any (unhide T1) _).mono ?_
        rintro e w7 ⟨hb7, v7, rfl, ho7⟩
        have HB7 := hide ((unhide HB6).trans (hb7.mono (unhide HB6).size))
        have HO7 := hide ho7
        clear hb7 ho7 HB6
        go_wp2_with fail
        refine (told_any (unhide T2) _).mono ?_
        rintro e w8 ⟨hb8, v8, rfl, ho8⟩
        have HB8 := hide ((unhide HB7).trans (hb8.mono (unhide HB7).size))
        have HO8 := hide ho8
        have HO7b := hide (own_below (unhide HO7) hb8)
        clear hb8 ho8 HB7 HO7
        go_wp2_with fail
        refine (told_over (unhide T2) v8 _ (unhide HO8)).mono ?_
        rintro e w9 ⟨rfl, hd9⟩
        have HB9 := hide (hd9.below (unhide HB8))
        have HO9 := hide (own_below (unhide HO7b) (hd9.below (Below.refl _ _)))
        clear hd9 HB8 HO8 HO7b
        go_wp2_with fail
        refine (told_over (unhide T1) v7 _ (unhide HO9)).mono ?_
        rintro e w10 ⟨rfl, hd10⟩
        have HB10 := hide (hd10.below (unhide HB9))
        clear hd10 HB9 HO9
        go_wp2_with fail
        go_returns
        refine ⟨?_, unhide HB10⟩
        first | rfl | simp [hle]
    · obtain ⟨hb0, hu⟩ := (unhide HPAT).none (Or.inr rfl)
      have hb0 : eb = 6 := hb0
      have hu : ub = ua := hu
      subst hb0 hu
      clear HPAT
      go_wp2_with fail
      go_returns
      exact ⟨rfl, unhide HB6⟩
    · obtain ⟨hb0, hu⟩ := (unhide HPAT).none (Or.inl rfl)
      have hb0 : eb = 7 := hb0
      have hu : ub = ua := hu
      subst hb0 hu
      clear HPAT
      go_wp2_with fail
      go_returns
      exact ⟨rfl, unhide HB6⟩
    · rcases (unhide HPAT).spent rfl with h | h | h
      all_goals
        have h : eb = _ := h
        subst h
        clear HPAT
        go_wp2_with fail
        go_returns
        exact ⟨rfl, unhide HB6⟩
  · have hI : (120 : Int) < (s.size : Int) := by omega
    go_wp2_with fail
    go_returns
    exact ⟨rfl, unhide HB3⟩
end Go.Proofs.YtppcnlkhdgmaiaaDoor
namespace Go.Proofs.YtppcnlkhdgmaiaaDoor
namespace Hx

/-! ### The script. -/
/-- Numbers with commas, as they are written. -/
def numsB (ns : List Nat) : List UInt8 := joinC (ns.map fun (n : Nat) => Lib.itoa (n : Int))
theorem numsB_snoc (ns : List Nat) (n : Nat) : numsB (ns ++ [n]) = if ns = [] then Lib.itoa (n : Int) else numsB ns ++ [44] ++ Lib.itoa (n : Int) := by
  unfold numsB
  rw [List.map_append, List.map_cons, List.map_nil, joinC_snoc]
  by_cases h : ns = []
  · subst h; simp
  · rw [if_neg h, if_neg (by simp [h])]
theorem numsB_one (n : Nat) : numsB [n] = Lib.itoa (n : Int) := by simp [numsB, joinC]
theorem numsB_cons (n m : Nat) (ns : List Nat) : numsB (n :: m :: ns) = Lib.itoa (n : Int) ++ (44 :: numsB (m :: ns)) := by simp [numsB, joinC]
theorem numsB_first (n : Nat) (ns : List Nat) : ∃ (b : UInt8) (r : List UInt8), numsB (n :: ns) = b :: r ∧ 48 ≤ b.toNat ∧ b.toNat ≤ 57 := by
  obtain ⟨b, r, h1, h2, h3, _⟩ := dec_first (u := n)
  cases ns with
  | nil => exact ⟨b, r, by rw [numsB_one, itoa_nat, h1], h2, h3⟩
  | cons m ns => exact ⟨b, _, by rw [numsB_cons, itoa_nat, h1]; rfl, h2, h3⟩
theorem numsF_read {s : ByteArray} {r : List UInt8} (hr : noDig r) (h44 : ∀ b, r[0]? = some b → b.toNat ≠ 44) : ∀ (ns : List Nat) (n p : Nat) (acc : List Nat), Tl s p (numsB (n :: ns) ++ r) → (∀ x ∈ n :: ns, x < 1000) → ∃ q, numsF s ⟨p, false⟩ acc = (acc ++ n :: ns, ⟨q, false⟩) ∧ Tl s q r
  | [], n, p, acc, h, hl => by
    rw [numsB_one] at h
    obtain ⟨h1, h2⟩ := Tl.num (k := 2) h hr (hl n (by simp))
    have hne : byteAt s (p + Lib.nDigits n) ≠ 44 := by
      cases r with
      | nil => rw [h2.none]; omega
      | cons b r => rw [h2.byte]; exact h44 b rfl
    refine ⟨p + Lib.nDigits n, ?_, h2⟩
    have e : nextF s 44 ⟨p + Lib.nDigits n, false⟩ = (false, ⟨p + Lib.nDigits n, false⟩) := nextF_no (fun g => hne g.2)
    rw [numsF, if_neg (by simp), h1]
    rw [dif_neg (by rw [e]; exact Bool.false_ne_true), e]
  | m :: ns, n, p, acc, h, hl => by
    have h' : Tl s p (Lib.itoa (n : Int) ++ (44 :: (numsB (m :: ns) ++ r))) := by
      rw [numsB_cons, List.append_assoc] at h
      exact h
    obtain ⟨h1, h2⟩ := Tl.num (k := 2) h' (noDig_cons (by decide)) (hl n (by simp))
    have hb := h2.byte
    obtain ⟨q, h3, h4⟩ := numsF_read hr h44 ns m (p + Lib.nDigits n + 1) (acc ++ [n]) h2.next (fun x hx => hl x (List.mem_cons_of_mem _ hx))
    refine ⟨q, ?_, h4⟩
    have e : nextF s 44 ⟨p + Lib.nDigits n, false⟩ = (true, ⟨p + Lib.nDigits n + 1, false⟩) := if_pos ⟨rfl, hb⟩
    rw [numsF, if_neg (by simp), h1]
    rw [dif_pos (by rw [e]), e, h3]
    simp
/-- A script is read back. -/
theorem script_read {cs ts : List Nat} (hc : cs ≠ []) (ht : ts ≠ []) (hc1 : ∀ x ∈ cs, x < 1000) (ht1 : ∀ x ∈ ts, x < 1000) {t : ByteArray} (h : t = ⟨(numsB cs ++ [47] ++ numsB ts).toArray⟩) : scrOk t = true ∧ (scr1 t).1 = cs ∧ (scr2 t).1 = ts := by
  obtain ⟨c, cs, rfl⟩ := List.exists_cons_of_ne_nil hc
  obtain ⟨k, ts, rfl⟩ := List.exists_cons_of_ne_nil ht
  have h0 : Tl t 0 (numsB (c :: cs) ++ (47 :: numsB (k :: ts))) := by rw [h]; have := Tl.start (numsB (c :: cs) ++ [47] ++ numsB (k :: ts)); simpa using this
  obtain ⟨b, r, e1, e2, e3⟩ := numsB_first c cs
  have hb0 : byteAt t 0 = b.toNat := by
    have h1 := h0
    rw [e1] at h1
    exact h1.byte
  obtain ⟨q, h1, h2⟩ := numsF_read (noDig_cons (by decide)) (fun b hb => by simp at hb; rw [← hb]; decide) cs c 0 [] h0 hc1
  have s1 : scr1 t = (c :: cs, ⟨q, false⟩) := by
    unfold scr1 numbersF
    rw [if_neg (by simp only; omega), h1]
    rfl
  obtain ⟨h3, h4⟩ := h2.take (c := 47) rfl
  obtain ⟨b', r', g1, g2, g3⟩ := numsB_first k ts
  have hlt : q + 1 < t.size := by
    have h5 := h4
    rw [g1] at h5
    exact h5.lt
  obtain ⟨q2, h5, h6⟩ := numsF_read noDig_nil (fun b hb => by simp at hb) ts k (q + 1) [] (by rw [List.append_nil]; exact h4) ht1
  have s2 : scr2 t = (k :: ts, ⟨q2, false⟩) := by
    unfold scr2 numbersF
    rw [s1, h3, if_neg (by simp only; omega), h5]
    rfl
  have hle := numsF_le _ ⟨q + 1, false⟩ [] rfl (Nat.le_of_lt hlt)
  rw [h5] at hle
  have hge := h6.ge
  refine ⟨?_, by rw [s1], by rw [s2]⟩
  unfold scrOk
  rw [s2]
  simp only at hle
  simp
  omega

/-! ### The machine. -/
/-- What a look that goes on leaves: the step that comes next is not due, the step at work is not over. -/
def PostL (l : List TStp) (takes : List Nat) (m : Ms) : Prop := ∃ x, l[m.k]? = some x ∧ (m.work = false → m.time < x.t) ∧ (m.work = true → m.time < beganM m + takes.getD m.k 0)
/-- What holds ahead of a look: the step that comes next is not late, nor will it be. -/
def PreL (l : List TStp) (J : Nat) (takes : List Nat) (m : Ms) : Prop := ∀ x, l[m.k]? = some x → (m.work = false → m.time ≤ x.t + J) ∧ (m.work = true → m.time ≤ beganM m + takes.getD m.k 0 + J)
structure TkOk (l : List TStp) (takes : List Nat) : Prop where
  len : takes.length = l.length
  bd : ∀ (k : Nat) (x : TStp), l[k]? = some x → x.lo ≤ takes.getD k 0 ∧ takes.getD k 0 ≤ x.hi
theorem no_window {J K : Nat} {l : List TStp} (hrob : RobP J K l) {m : Ms} (h : Inv l J m) {x : TStp} (hx : l[m.k]? = some x) (ht : x.t ≤ m.time) (htJ : m.time ≤ x.t + J) : windowB x ((m.time : Int) - m.rb.getD x.pl 0) = false := by
  unfold windowB
  cases hr : x.rest with
  | false => rfl
  | true =>
    have hout := ((hrob.right.ok x (List.mem_of_getElem? hx)).rest hr).1
    obtain ⟨a, y, ha, hy, hp, hl, hin, h1, h2⟩ := hrob.rest m.k x hx hout
    obtain ⟨y', b, e, hy', hs, g1, g2, hbeg⟩ := h.so.fin a ha
    rw [hy] at hy'
    cases hy'
    have hrb := h.rb a y b e ha hy (by rw [hin]; exact hout) (fun j z g1 g2 g3 => by rw [hp]; exact hl j z g1 g2 g3) hs
    rw [hp] at hrb
    rw [hrb]
    have g3 := hbeg.1
    have g4 := hbeg.2.1
    have d1 : decide ((m.time : Int) - (e : Int) < (x.mn : Int)) = false := by simp; omega
    have d2 : decide ((x.mx : Int) < (m.time : Int) - (e : Int)) = false := by simp; omega
    rw [d1, d2]
    rfl
theorem one_live {J K : Nat} {l : List TStp} (hrob : RobP J K l) {takes : List Nat} (ht : TkOk l takes) {m : Ms} (h : Inv l J m) (hp : PreL l J takes m) :
    (∃ m', oneM l J takes m = (none, m') ∧ Inv l J m' ∧ PreL l J takes m' ∧ m'.time = m.time) ∨ (∃ m', oneM l J takes m = (some 1, m')) ∨ (oneM l J takes m = (some 0, m) ∧ PostL l takes m) := by
  cases hx : l[m.k]? with
  | none =>
    right; left
    have hk := List.getElem?_eq_none_iff.1 hx
    have hw : m.work = false := by
      cases hw : m.work with
      | false => rfl
      | true =>
        obtain ⟨x, b, h1, _⟩ := h.beg hw
        rw [hx] at h1
        cases h1
    refine ⟨m, ?_⟩
    unfold oneM
    rw [hx, hw]
    rfl
  | some x =>
    obtain ⟨hp1, hp2⟩ := hp x hx
    obtain ⟨tk1, tk2⟩ := ht.bd m.k x hx
    have hkl := getElem?_lt hx
    have hown := right_own hrob.right hx
    cases hw : m.work with
    | true =>
      obtain ⟨x', b, g1, g2, g3, g4⟩ := h.beg hw
      rw [hx] at g1
      cases g1
      have hbg := began_is h g2
      by_cases hov : overM takes m = true
      · left
        have hf : finishM x (takes.getD m.k 0) m = (none, { m with sts := m.sts.set m.k (beganM m, some (beganM m + takes.getD m.k 0)), rb := if 0 ≤ x.inn then m.rb.set x.pl ((beganM m + takes.getD m.k 0 : Nat) : Int) else m.rb, work := false, k := m.k + 1 }) := by
          unfold finishM
          rw [if_neg (by omega), if_neg (by omega)]
        refine ⟨_, ?_, h.finish hrob.right hw hx hov hf, ?_, rfl⟩
        · unfold oneM
          rw [hx]
          simp only
          rw [if_pos hw, if_pos hov, hf]
        · intro y hy
          have hy : l[m.k + 1]? = some y := hy
          refine ⟨fun _ => ?_, fun h => (by cases h)⟩
          have harm := hrob.arm m.k x y hx hy
          have := hp2 hw
          have := g4.2.1
          show m.time ≤ y.t + J
          omega
      · right; right
        have hlt : m.time < beganM m + takes.getD m.k 0 := by
          unfold overM at hov
          simp only [Bool.and_eq_true, decide_eq_true_eq, not_and] at hov
          have := hov (by rw [ht.len]; exact hkl)
          omega
        refine ⟨?_, x, hx, fun g => (by rw [hw] at g; cases g), fun _ => hlt⟩
        unfold oneM
        rw [hx]
        simp only
        rw [if_pos hw, if_neg hov, if_neg (by omega)]
    | false =>
      have hw' : ¬ m.work = true := by rw [hw]; simp
      by_cases htm : m.time < x.t
      · right; right
        refine ⟨?_, x, hx, fun _ => htm, fun g => by rw [hw] at g; cases g⟩
        unfold oneM
        rw [hx]
        simp only
        rw [if_neg hw', if_pos htm]
      · left
        have hJ := hp1 hw
        have hwin := no_window hrob h hx (by omega) hJ
        have hf : beginM J x m = (none, { m with sts := m.sts ++ [(m.time, none)], work := true }) := by
          unfold beginM
          rw [if_neg (by omega), hwin]
          rfl
        refine ⟨_, ?_, h.begin hrob.right hw hx htm hf, ?_, rfl⟩
        · unfold oneM
          rw [hx]
          simp only
          rw [if_neg hw', if_neg htm, hf]
        · intro y hy
          refine ⟨fun g => (by cases g), fun _ => ?_⟩
          have hb : beganM { m with sts := m.sts ++ [(m.time, none)], work := true } = m.time := by
            have hlen := h.len
            rw [hw] at hlen
            unfold beganM
            simp only
            rw [List.getD_eq_getElem?_getD, List.getElem?_append_right (by simp at hlen; omega)]
            have : m.k - m.sts.length = 0 := by simp at hlen; omega
            rw [this]
            rfl
          rw [hb]
          show m.time ≤ m.time + takes.getD m.k 0 + J
          omega
/-- What a look comes to: done, or it goes on. -/
def Live (l : List TStp) (J : Nat) (takes : List Nat) (T : Nat) (r : Nat × Ms) : Prop := r.1 = 1 ∨ (r.1 = 0 ∧ Inv l J r.2 ∧ PostL l takes r.2 ∧ r.2.time = T)
theorem look_live {J K : Nat} {l : List TStp} (hrob : RobP J K l) {takes : List Nat} (ht : TkOk l takes) : ∀ (n : Nat) (m : Ms), muM l m ≤ n → Inv l J m → PreL l J takes m → Live l J takes m.time (lookM l J takes m)
  | n, m, hn, h, hp => by
    rcases one_live hrob ht h hp with ⟨m', h1, h2, h3, h4⟩ | ⟨m', h1⟩ | ⟨h1, h2⟩
    · have hmu := oneM_mu h1
      rw [lookM_none h1]
      cases n with
      | zero => omega
      | succ n =>
        rw [← h4]
        exact look_live hrob ht n m' (by omega) h2 h3
    · rw [lookM_some h1]
      exact Or.inl rfl
    · rw [lookM_some h1]
      exact Or.inr ⟨rfl, h, h2, rfl⟩
theorem run_live {J K : Nat} {l : List TStp} (hrob : RobP J K l) {takes : List Nat} (ht : TkOk l takes) : ∀ (cs : List Nat) (T : Nat) (r : Nat × Ms), (∀ c ∈ cs, c ≤ J + 1) → Live l J takes T r → Live l J takes (T + cs.sum) (runM l J takes cs r)
  | [], T, r, _, h => by simpa [runM] using h
  | c :: cs, T, r, hc, h => by
    rcases h with h | ⟨h0, hi, hp, hT⟩
    · rw [runM_end (by omega)]
      exact Or.inl h
    · rw [runM_cons h0]
      have hc1 := hc c (by simp)
      have hpre : PreL l J takes { r.2 with time := r.2.time + c } := by
        obtain ⟨x, hx, p1, p2⟩ := hp
        intro y hy
        have hy : l[r.2.k]? = some y := hy
        rw [hx] at hy
        cases hy
        refine ⟨fun hw => ?_, fun hw => ?_⟩
        · have := p1 hw
          show r.2.time + c ≤ x.t + J
          omega
        · have := p2 hw
          show r.2.time + c ≤ beganM r.2 + takes.getD r.2.k 0 + J
          omega
      have hl := look_live hrob ht _ _ (Nat.le_refl _) (hi.later c) hpre
      have h2 := run_live hrob ht cs _ _ (fun d hd => hc d (by simp [hd])) hl
      have e : ({ r.2 with time := r.2.time + c } : Ms).time + cs.sum = T + (c :: cs).sum := by
        show r.2.time + c + cs.sum = _
        rw [hT, List.sum_cons]
        omega
      rw [e] at h2
      exact h2
theorem arm_le {J K : Nat} {l : List TStp} (hrob : RobP J K l) : ∀ (d k : Nat) (x y : TStp), l[k]? = some x → l[k + d]? = some y → x.t + x.hi ≤ y.t + y.hi
  | 0, k, x, y, hx, hy => by rw [Nat.add_zero, hx] at hy; cases hy; omega
  | d + 1, k, x, y, hx, hy => by
    have hlt := getElem?_lt hy
    have hz : l[k + d]? = some (l[k + d]'(by omega)) := List.getElem?_eq_getElem _
    have h1 := arm_le hrob d k x _ hx hz
    have h2 := hrob.arm (k + d) _ y hz hy
    omega
/-- With a clock that goes on by no more than J + 1, until it is surely over, the machine ends done. -/
theorem mach_done {J K : Nat} {l : List TStp} (hrob : RobP J K l) {takes clock : List Nat} (ht : TkOk l takes) (hc : ∀ c ∈ clock, c ≤ J + 1) {y : TStp} (hy : l[l.length - 1]? = some y) (hend : y.t + J + y.hi ≤ clock.sum) : (machF l J clock takes).1 = 1 := by
  have h0 : PreL l J takes startM := fun x hx => ⟨fun _ => by show 0 ≤ x.t + J; omega, fun h => by cases h⟩
  have h1 := look_live hrob ht _ _ (Nat.le_refl _) (Inv.start l J) h0
  have h2 := run_live hrob ht clock _ _ hc h1
  rcases h2 with h2 | ⟨_, hi, ⟨x, hx, p1, p2⟩, hT⟩
  · exact h2
  · exfalso
    have hT : (runM l J takes clock (lookM l J takes startM)).2.time = clock.sum := by rw [hT]; show 0 + clock.sum = _; omega
    generalize (runM l J takes clock (lookM l J takes startM)).2 = m at hi hx p1 p2 hT
    have hkl := getElem?_lt hx
    have hle := arm_le hrob (l.length - 1 - m.k) m.k x y hx (by rw [show m.k + (l.length - 1 - m.k) = l.length - 1 by omega]; exact hy)
    cases hw : m.work with
    | false =>
      have := p1 hw
      omega
    | true =>
      have h3 := p2 hw
      obtain ⟨x', b, g1, g2, g3, g4⟩ := hi.beg hw
      rw [hx] at g1
      cases g1
      have hbg := began_is hi g2
      have h4 := (ht.bd m.k x hx).2
      have h5 := g4.2.1
      omega
/-- What Run tells of it. -/
theorem run_done {J K D : Nat} {ps : List (List Stp)} {u : List UInt8} {e : Int} {o : List Nat} {f : Nat → Int} (h : Told J K D ps u e o f) {cs ts : List Nat} (hc0 : cs ≠ []) (hc : ∀ c ∈ cs, c ≤ J + 1) (hsum : e ≤ (cs.sum : Int)) (ht : TkOk (ttab ps o f) ts) {t : ByteArray} (htx : t = ⟨(numsB cs ++ [47] ++ numsB ts).toArray⟩) (h800 : t.size ≤ 800) :
    ∃ v, refRunF ⟨u.toArray⟩ t = ([100, 111, 110, 101, 59] ++ v, 0) ∧ v ≠ [] := by
  have hJ := h.tm.good.j
  have hpos := labs_some h.tm.good
  have hlen : (ttab ps o f).length = (labs ps).length := by rw [ttab_len, h.tm.len]
  have hrob := h.tm.rob
  have ht0 : ts ≠ [] := by
    intro g
    have := ht.len
    rw [g, hlen] at this
    simp at this
    omega
  have hts : ∀ x ∈ ts, x < 1000 := by
    intro x hx
    obtain ⟨k, hk, rfl⟩ := List.mem_iff_getElem.1 hx
    have hl := ht.len
    obtain ⟨y, hy⟩ : ∃ y, (ttab ps o f)[k]? = some y := ⟨_, List.getElem?_eq_getElem (by omega)⟩
    have h1 := (ht.bd k y hy).2
    have h2 := (hrob.right.ok y (List.mem_of_getElem? hy)).hi
    rw [List.getD_eq_getElem?_getD, List.getElem?_eq_getElem hk] at h1
    simp at h1
    omega
  obtain ⟨r1, r2, r3⟩ := script_read hc0 ht0 (fun x hx => by have := hc x hx; omega) hts htx
  obtain ⟨q1, q2, q3⟩ := h.read
  obtain ⟨y, hy⟩ : ∃ y, (ttab ps o f)[(ttab ps o f).length - 1]? = some y := ⟨_, List.getElem?_eq_getElem (by omega)⟩
  have hover : ((y.t + J + y.hi : Nat) : Int) = e := by
    have ho := h.over
    unfold overF at ho
    rw [List.getLast?_eq_getElem?, List.length_map, List.getElem?_map, hy] at ho
    simp only [Option.map_some] at ho
    rw [← ho]
    show _ = (y.t : Int) + (J : Int) + (y.hi : Int)
    omega
  have hdone := mach_done hrob ht hc hy (by omega)
  have hsafe := mach_safe hrob.right J cs ts
  have hk := hsafe.2.1 hdone
  have hsts : (machF (ttab ps o f) J cs ts).2.sts ≠ [] := by
    intro g
    have := hsafe.1.ks
    rw [g, hk, hlen] at this
    have : (labs ps).length ≤ 0 := this
    omega
  refine ⟨evB (ttab ps o f) (machF (ttab ps o f) J cs ts).2.sts, ?_, evB_ne _ _ hsafe.1.sl hsts⟩
  have hsz := h.size
  have hlk := h.look
  unfold refRunF
  rw [if_neg (by omega), if_neg (by rw [hlk]; simp), if_neg (by rw [r1]; simp), q1, q3, r2, r3]
  have hm := machine_is hrob.right J cs ts
  show (refGo (sumsF 0 cs) J ts (ttab ps o f) 0 0 [] [0, 0, 0, 0], (0 : Int)) = _
  rw [← hm]
  unfold tellF
  rw [hdone]
  rfl
end Hx
end Go.Proofs.YtppcnlkhdgmaiaaDoor
namespace Go.Proofs.YtppcnlkhdgmaiaaDoor
namespace Hx

/-- The machine's book. -/
structure Bk (l : List TStp) (m : Ms) : Prop where
  le : m.k ≤ l.length
  free : m.work = false → m.sts.length = m.k
  busy : m.work = true → m.k < l.length ∧ ∃ pre b, m.sts = pre ++ [(b, none)] ∧ pre.length = m.k

theorem pre_begin (l : List TStp) (sts : List (Nat × Option Nat)) (x : TStp) (e : Nat × Option Nat) (hx : l[sts.length]? = some x) : evB l sts <+: evB l (sts ++ [e]) := by
  rw [evB_snoc l sts x e hx]
  split
  · rename_i h; rw [h, evB_nil]; exact List.nil_prefix
  · rw [List.append_assoc]; exact List.prefix_append _ _
theorem pre_end (l : List TStp) (pre : List (Nat × Option Nat)) (x : TStp) (now v : Nat) (hx : l[pre.length]? = some x) : evB l (pre ++ [(now, none)]) <+: evB l (pre ++ [(now, some v)]) := by
  rw [ent_open l pre x now hx, ent_shut l pre x now v hx]
  exact List.prefix_append _ _

theorem began_pre {m : Ms} {pre : List (Nat × Option Nat)} {b : Nat} (h1 : m.sts = pre ++ [(b, none)]) (h2 : pre.length = m.k) : beganM m = b := by
  have : m.sts.getD m.k (0, none) = (b, none) := by
    rw [List.getD_eq_getElem?_getD, h1, ← h2, List.getElem?_append_right (Nat.le_refl _)]
    simp
  rw [beganM, this]
theorem setd_pre {m : Ms} {pre : List (Nat × Option Nat)} {b : Nat} (h1 : m.sts = pre ++ [(b, none)]) (h2 : pre.length = m.k) (e : Nat × Option Nat) : m.sts.set m.k e = pre ++ [e] := by
  rw [h1, ← h2, List.set_append_right _ _ (Nat.le_refl _)]
  simp

theorem oneM_bk {l : List TStp} {J : Nat} {takes : List Nat} {m m' : Ms} {r : Option Nat} (hb : Bk l m) (h : oneM l J takes m = (r, m')) : evB l m.sts <+: evB l m'.sts ∧ (r = none ∨ r = some 0 → Bk l m') := by
  unfold oneM at h
  cases hx : l[m.k]? with
  | none => rw [hx] at h; cases h; exact ⟨List.prefix_refl _, fun _ => hb⟩
  | some x =>
    have hk : m.k < l.length := by
      rcases Nat.lt_or_ge m.k l.length with g | g
      · exact g
      · rw [List.getElem?_eq_none g] at hx; cases hx
    rw [hx] at h
    simp only at h
    split at h
    · rename_i hw
      obtain ⟨_, pre, b, h1, h2⟩ := hb.busy hw
      have hp : evB l m.sts <+: evB l (m.sts.set m.k (beganM m, some (beganM m + takes.getD m.k 0))) := by
        rw [setd_pre h1 h2, began_pre h1 h2, h1]
        exact pre_end l pre x b _ (by rw [h2]; exact hx)
      split at h
      · unfold finishM at h
        split at h
        · cases h; exact ⟨hp, fun g => by rcases g with g | g <;> cases g⟩
        · split at h
          · cases h; exact ⟨hp, fun g => by rcases g with g | g <;> cases g⟩
          · cases h
            refine ⟨hp, fun _ => ⟨hk, fun _ => ?_, fun g => by cases g⟩⟩
            show (m.sts.set m.k _).length = m.k + 1
            rw [List.length_set, h1]; simp [h2]
      · split at h
        · cases h; exact ⟨List.prefix_refl _, fun g => by rcases g with g | g <;> cases g⟩
        · cases h; exact ⟨List.prefix_refl _, fun _ => hb⟩
    · rename_i hw
      have hw : m.work = false := by simpa using hw
      split at h
      · cases h; exact ⟨List.prefix_refl _, fun _ => hb⟩
      · unfold beginM at h
        split at h
        · cases h; exact ⟨List.prefix_refl _, fun g => by rcases g with g | g <;> cases g⟩
        · split at h
          · cases h; exact ⟨List.prefix_refl _, fun g => by rcases g with g | g <;> cases g⟩
          · cases h
            have hl := hb.free hw
            exact ⟨pre_begin l m.sts x _ (by rw [hl]; exact hx), fun _ => ⟨hb.le, fun g => (by cases g), fun _ => ⟨hk, m.sts, m.time, rfl, hl⟩⟩⟩

theorem lookM_bk {l : List TStp} {J : Nat} {takes : List Nat} : ∀ (n : Nat) (m : Ms), muM l m = n → Bk l m → evB l m.sts <+: evB l (lookM l J takes m).2.sts ∧ ((lookM l J takes m).1 = 0 → Bk l (lookM l J takes m).2) := by
  intro n
  induction n using Nat.strongRecOn with
  | ind n ih =>
    intro m hn hb
    rcases ho : oneM l J takes m with ⟨r, m'⟩
    obtain ⟨h1, h2⟩ := oneM_bk hb ho
    cases r with
    | none =>
      rw [lookM_none ho]
      have hmu := oneM_mu ho
      obtain ⟨g1, g2⟩ := ih _ (by omega) m' rfl (h2 (Or.inl rfl))
      exact ⟨h1.trans g1, g2⟩
    | some e =>
      rw [lookM_some ho]
      exact ⟨h1, fun he => h2 (Or.inr (by rw [show e = 0 from he]))⟩

theorem runM_bk {l : List TStp} {J : Nat} {takes : List Nat} : ∀ (cs : List Nat) (r : Nat × Ms), (r.1 = 0 → Bk l r.2) → evB l r.2.sts <+: evB l (runM l J takes cs r).2.sts ∧ ((runM l J takes cs r).1 = 0 → Bk l (runM l J takes cs r).2)
  | [], r, h => ⟨List.prefix_refl _, h⟩
  | c :: cs, r, h => by
    by_cases he : r.1 = 0
    · rw [runM_cons he]
      have hb := h he
      have hb' : Bk l { r.2 with time := r.2.time + c } := ⟨hb.le, hb.free, hb.busy⟩
      obtain ⟨h1, h2⟩ := lookM_bk (J := J) (takes := takes) _ _ rfl hb'
      obtain ⟨g1, g2⟩ := runM_bk cs (lookM l J takes { r.2 with time := r.2.time + c }) h2
      exact ⟨List.IsPrefix.trans h1 g1, g2⟩
    · rw [runM_end he]; exact ⟨List.prefix_refl _, fun g => absurd g he⟩
theorem runM_app {l : List TStp} {J : Nat} {takes : List Nat} : ∀ (cs ds : List Nat) (r : Nat × Ms), runM l J takes (cs ++ ds) r = runM l J takes ds (runM l J takes cs r)
  | [], _, _ => rfl
  | c :: cs, ds, r => by
    by_cases he : r.1 = 0
    · rw [List.cons_append, runM_cons he, runM_cons he]; exact runM_app cs ds _
    · rw [runM_end he, runM_end he, runM_end he]
theorem start_bk (l : List TStp) : Bk l startM := ⟨Nat.zero_le _, fun _ => rfl, fun h => by cases h⟩
theorem machF_bk (l : List TStp) (J : Nat) (clock takes : List Nat) : (machF l J clock takes).1 = 0 → Bk l (machF l J clock takes).2 :=
  (runM_bk clock _ (lookM_bk _ _ rfl (start_bk l)).2).2
/-- A longer clock: what has ended stays. -/
theorem machF_ended {l : List TStp} {J : Nat} {C M takes : List Nat} (h : (machF l J C takes).1 ≠ 0) : machF l J (C ++ M) takes = machF l J C takes := by
  unfold machF at h ⊢
  rw [runM_app, runM_end h]
/-- A longer clock: what was told stays. -/
theorem machF_onward (l : List TStp) (J : Nat) (C M takes : List Nat) : evB l (machF l J C takes).2.sts <+: evB l (machF l J (C ++ M) takes).2.sts := by
  rw [show machF l J (C ++ M) takes = runM l J takes M (machF l J C takes) by unfold machF; rw [runM_app]]
  exact (runM_bk M _ (machF_bk l J C takes)).1

/-- What stands ahead of the first semicolon, and behind it. -/
def cutF : List UInt8 → List UInt8 × List UInt8
  | [] => ([], [])
  | b :: r => if b = 59 then ([], r) else (b :: (cutF r).1, (cutF r).2)
theorem cutF_at (h e : List UInt8) (hn : 59 ∉ h) : cutF (h ++ 59 :: e) = (h, e) := by
  induction h with
  | nil => simp [cutF]
  | cons b r ih =>
    have h1 : b ≠ 59 := fun g => hn (by simp [g])
    have h2 : 59 ∉ r := fun g => hn (by simp [g])
    rw [List.cons_append, cutF, if_neg h1, ih h2]
def headB (l : List TStp) (r : Nat × Ms) : List UInt8 := outB r.1 ++ (if 2 ≤ r.1 then [32] ++ nameAt l r.2.k else [])
theorem tellF_head (l : List TStp) (r : Nat × Ms) : tellF l r = headB l r ++ 59 :: evB l r.2.sts := by simp [tellF, headB]
theorem name_no {pl no : Nat} (h1 : pl < 4) (h2 : no < 10) : (59 : UInt8) ∉ nmB pl no := by
  have key : ∀ p : Fin 4, ∀ n : Fin 10, (59 : UInt8) ∉ nmB p.val n.val := by decide
  exact key ⟨pl, h1⟩ ⟨no, h2⟩
theorem outB_no (e : Nat) : (59 : UInt8) ∉ outB e := by
  match e with
  | 0 => decide
  | 1 => decide
  | 2 => decide
  | 3 => decide
  | 4 => decide
  | n + 5 => exact (by decide : (59 : UInt8) ∉ outB 5)
theorem headB_no {l : List TStp} (hok : ∀ y ∈ l, TOk y) (r : Nat × Ms) : (59 : UInt8) ∉ headB l r := by
  unfold headB
  intro h
  rcases List.mem_append.1 h with h | h
  · exact outB_no _ h
  · split at h
    · rcases List.mem_append.1 h with h | h
      · revert h; decide
      · unfold nameAt at h
        split at h
        · rename_i x hx
          have := hok x (List.mem_of_getElem? hx)
          exact name_no this.pl this.no h
        · cases h
    · cases h
theorem cut_tell {l : List TStp} (hok : ∀ y ∈ l, TOk y) (r : Nat × Ms) : cutF (tellF l r) = (headB l r, evB l r.2.sts) := by
  rw [tellF_head]; exact cutF_at _ _ (headB_no hok r)
/-- What Onward asks of the two answers. -/
theorem onward_tell {l : List TStp} (hok : ∀ y ∈ l, TOk y) (J : Nat) (C M takes : List Nat) :
    ((cutF (tellF l (machF l J C takes))).1 ≠ outB 0 → tellF l (machF l J C takes) = tellF l (machF l J (C ++ M) takes)) ∧
    (cutF (tellF l (machF l J C takes))).2 <+: (cutF (tellF l (machF l J (C ++ M) takes))).2 := by
  rw [cut_tell hok, cut_tell hok]
  refine ⟨fun h => ?_, machF_onward l J C M takes⟩
  by_cases he : (machF l J C takes).1 = 0
  · exact absurd (by simp [headB, he]) h
  · rw [machF_ended he]

/-- What is read of a number is digits. -/
theorem digF_pass (s : ByteArray) : ∀ k at_ v i, at_ ≤ i → i < (digF s k at_ v).2 → 48 ≤ byteAt s i ∧ byteAt s i ≤ 57
  | 0, at_, v, i, h1, h2 => by simp [digF] at h2; omega
  | k + 1, at_, v, i, h1, h2 => by
    unfold digF at h2
    split at h2
    · rename_i g
      by_cases e : i = at_
      · rw [e]; exact g
      · exact digF_pass s k (at_ + 1) _ i (by omega) h2
    · simp at h2; omega
theorem numF_pass {s : ByteArray} {m : Nat} {st : St} {i : Nat} (h1 : st.pos ≤ i) (h2 : i < (numF s m st).2.pos) : 48 ≤ byteAt s i ∧ byteAt s i ≤ 57 := by
  unfold numF at h2
  split at h2
  · simp at h2; omega
  · split at h2
    · rename_i e
      simp at h2
      rw [show i = st.pos by omega, e]; omega
    · split at h2
      · exact digF_pass s m st.pos 0 i h1 h2
      · simp at h2; omega
theorem numsF_pass {s : ByteArray} (n : Nat) : ∀ (st : St) (acc : List Nat) (i : Nat), s.size - st.pos = n → st.pos ≤ i → i < (numsF s st acc).2.pos → byteAt s i ≠ 47 := by
  induction n using Nat.strongRecOn with
  | ind n ih =>
    intro st acc i hn h1 h2
    have hG := numF_ge s 3 st
    rw [numsF] at h2
    split at h2
    · simp at h2; omega
    · rename_i hbad
      split at h2
      · rename_i hq
        obtain ⟨_, g2, h3, h4⟩ := nextF_in (by omega) hq
        rw [h4] at h2
        by_cases c1 : i < (numF s 3 st).2.pos
        · have := numF_pass h1 c1; omega
        · by_cases c2 : i = (numF s 3 st).2.pos
          · rw [c2, g2]; omega
          · exact ih (s.size - ((numF s 3 st).2.pos + 1)) (by omega) ⟨(numF s 3 st).2.pos + 1, false⟩ _ i rfl (by simp only; omega) h2
      · rename_i hq
        have : (nextF s 44 (numF s 3 st).2).2 = (numF s 3 st).2 := by
          unfold nextF at hq ⊢
          split at hq
          · simp at hq
          · rename_i g; rw [if_neg g]
        simp only [this] at h2
        have := numF_pass h1 h2; omega
theorem numbersF_pass {s : ByteArray} {c : Nat} {st : St} {i : Nat} (h1 : st.pos ≤ i) (h2 : i < (numbersF s c st).2.pos) : byteAt s i ≠ 47 := by
  unfold numbersF at h2
  split at h2
  · simp at h2; omega
  · exact numsF_pass _ st [] i rfl h1 h2
theorem numbersF_badS {s : ByteArray} {c : Nat} {st : St} (h : st.bad = true) : (numbersF s c st).2.bad = true := by
  unfold numbersF
  split
  · exact h
  · rw [numsF, if_pos h]; exact h
/-- The one stroke of a right script. -/
theorem stroke {s : ByteArray} (h : scrOk s = true) : (scr1 s).2.bad = false ∧ byteAt s (scr1 s).2.pos = 47 ∧ takeF s 47 (scr1 s).2 = ⟨(scr1 s).2.pos + 1, false⟩ ∧ (scr2 s).2.pos = s.size ∧ (scr2 s).2.bad = false ∧ ∀ i, i < s.size → byteAt s i = 47 → i = (scr1 s).2.pos := by
  simp only [scrOk, Bool.and_eq_true, Bool.not_eq_true', beq_iff_eq] at h
  obtain ⟨h1, h2⟩ := h
  have ht : ¬ ((scr1 s).2.bad = true ∨ byteAt s (scr1 s).2.pos ≠ 47) := fun g => by
    have : (takeF s 47 (scr1 s).2).bad = true := by rw [takeF, if_pos g]
    have := numbersF_badS (s := s) (c := 0) this
    unfold scr2 at h1
    rw [this] at h1; cases h1
  have e1 : (scr1 s).2.bad = false := by
    cases hb : (scr1 s).2.bad
    · rfl
    · exact absurd (Or.inl hb) ht
  have e2 : byteAt s (scr1 s).2.pos = 47 := by
    rcases Nat.decEq (byteAt s (scr1 s).2.pos) 47 with g | g
    · exact absurd (Or.inr g) ht
    · exact g
  have e3 : takeF s 47 (scr1 s).2 = ⟨(scr1 s).2.pos + 1, false⟩ := by rw [takeF, if_neg ht]
  refine ⟨e1, e2, e3, h2, h1, fun i hi hb => ?_⟩
  rcases Nat.lt_trichotomy i (scr1 s).2.pos with g | g | g
  · exact absurd hb (numbersF_pass (st := ⟨0, false⟩) (Nat.zero_le _) g)
  · exact g
  · refine absurd hb (numbersF_pass (st := takeF s 47 (scr1 s).2) (c := 0) ?_ ?_)
    · rw [e3]; exact g
    · show i < (scr2 s).2.pos
      omega

/-- Two texts that agree up to a place, at which neither has a digit. -/
theorem digF_agree {A B : ByteArray} {n : Nat} (hag : ∀ i, i < n → byteAt A i = byteAt B i) (hA : ¬ (48 ≤ byteAt A n ∧ byteAt A n ≤ 57)) (hB : ¬ (48 ≤ byteAt B n ∧ byteAt B n ≤ 57)) : ∀ k at_ v, at_ ≤ n → digF A k at_ v = digF B k at_ v ∧ (digF A k at_ v).2 ≤ n
  | 0, at_, v, h => by simp [digF, h]
  | k + 1, at_, v, h => by
    unfold digF
    by_cases e : at_ = n
    · subst e; rw [if_neg hA, if_neg hB]; exact ⟨rfl, h⟩
    · rw [hag at_ (by omega)]
      split
      · exact digF_agree hag hA hB k (at_ + 1) _ (by omega)
      · exact ⟨rfl, h⟩
theorem numF_agree {A B : ByteArray} {n : Nat} (hag : ∀ i, i < n → byteAt A i = byteAt B i) (hA : ¬ (48 ≤ byteAt A n ∧ byteAt A n ≤ 57)) (hB : ¬ (48 ≤ byteAt B n ∧ byteAt B n ≤ 57)) (m p : Nat) (h : p ≤ n) : numF A m ⟨p, false⟩ = numF B m ⟨p, false⟩ ∧ (numF A m ⟨p, false⟩).2.pos ≤ n := by
  by_cases e : p = n
  · subst e
    rw [numF_no rfl hA, numF_no rfl hB]
    exact ⟨rfl, h⟩
  · have g := hag p (by omega)
    obtain ⟨d1, d2⟩ := digF_agree hag hA hB m p 0 h
    unfold numF
    simp only [g, Bool.false_eq_true, if_false]
    split
    · exact ⟨rfl, by simp only; omega⟩
    · split
      · rw [d1]; exact ⟨rfl, by rw [d1] at d2; exact d2⟩
      · exact ⟨rfl, h⟩
theorem numsF_acc {s : ByteArray} (n : Nat) : ∀ (st : St) (acc acc2 : List Nat), s.size - st.pos = n → numsF s st (acc ++ acc2) = (acc ++ (numsF s st acc2).1, (numsF s st acc2).2) := by
  induction n using Nat.strongRecOn with
  | ind n ih =>
    intro st acc acc2 hn
    have hG := numF_ge s 3 st
    rw [numsF, numsF.eq_1 s st acc2]
    split
    · rfl
    · split
      · rename_i hq
        obtain ⟨_, g2, h3, h4⟩ := nextF_in (by omega) hq
        rw [h4, List.append_assoc]
        exact ih (s.size - ((numF s 3 st).2.pos + 1)) (by omega) ⟨(numF s 3 st).2.pos + 1, false⟩ acc _ rfl
      · rw [List.append_assoc]
theorem numsF_agree {A B : ByteArray} {n : Nat} (hag : ∀ i, i < n → byteAt A i = byteAt B i) (hA : byteAt A n = 47) (hB : byteAt B n = 44) : ∀ (q p : Nat) (acc acc' : List Nat), n - p = q → p ≤ n → numsF A ⟨p, false⟩ acc = (acc', ⟨n, false⟩) → numsF B ⟨p, false⟩ acc = numsF B ⟨n + 1, false⟩ acc' := by
  intro q
  induction q using Nat.strongRecOn with
  | ind q ih =>
    intro p acc acc' hq hp h
    obtain ⟨e1, e2⟩ := numF_agree (A := A) (B := B) (n := n) hag (by omega) (by omega) 3 p hp
    have hG := numF_ge A 3 ⟨p, false⟩
    simp only at hG
    rw [numsF, if_neg (by simp)] at h
    rw [numsF, if_neg (by simp), ← e1]
    rcases hst : numF A 3 ⟨p, false⟩ with ⟨v, ⟨u, bad⟩⟩
    rw [hst] at h e2 hG
    simp only at h e2 hG ⊢
    cases bad with
    | true =>
      have k1 : nextF A 44 ⟨u, true⟩ = (false, ⟨u, true⟩) := nextF_no (by simp)
      rw [k1] at h
      simp at h
    | false =>
      by_cases hu : u = n
      · subst hu
        have k1 : nextF A 44 ⟨u, false⟩ = (false, ⟨u, false⟩) := nextF_no (by simp [hA])
        have k2 : nextF B 44 ⟨u, false⟩ = (true, ⟨u + 1, false⟩) := nextF_yes hB
        rw [k1] at h
        simp at h
        rw [k2]
        simp [h]
      · have hu' : u < n := by omega
        by_cases hc : byteAt A u = 44
        · have k1 : nextF A 44 ⟨u, false⟩ = (true, ⟨u + 1, false⟩) := nextF_yes hc
          have k2 : nextF B 44 ⟨u, false⟩ = (true, ⟨u + 1, false⟩) := nextF_yes (by rw [← hag u hu']; exact hc)
          rw [k1] at h
          rw [k2]
          simp only [dite_true] at h ⊢
          exact ih (n - (u + 1)) (by omega) (u + 1) _ acc' rfl (by omega) h
        · have k1 : nextF A 44 ⟨u, false⟩ = (false, ⟨u, false⟩) := nextF_no (by simp [hc])
          rw [k1] at h
          simp at h
          omega

/-- Two texts that agree from two places on. -/
theorem digF_shift {A B : ByteArray} {a b : Nat} (hag : ∀ i, byteAt A (a + i) = byteAt B (b + i)) : ∀ k i v, (digF A k (a + i) v).1 = (digF B k (b + i) v).1 ∧ ∃ j, (digF A k (a + i) v).2 = a + j ∧ (digF B k (b + i) v).2 = b + j
  | 0, i, v => ⟨rfl, i, rfl, rfl⟩
  | k + 1, i, v => by
    unfold digF
    rw [hag i]
    split
    · exact digF_shift hag k (i + 1) _
    · exact ⟨rfl, i, rfl, rfl⟩
theorem numF_shift {A B : ByteArray} {a b : Nat} (hag : ∀ i, byteAt A (a + i) = byteAt B (b + i)) (m i : Nat) (bad : Bool) : (numF A m ⟨a + i, bad⟩).1 = (numF B m ⟨b + i, bad⟩).1 ∧ ∃ j bad', (numF A m ⟨a + i, bad⟩).2 = ⟨a + j, bad'⟩ ∧ (numF B m ⟨b + i, bad⟩).2 = ⟨b + j, bad'⟩ := by
  unfold numF
  simp only [hag i]
  split
  · exact ⟨rfl, i, bad, rfl, rfl⟩
  · split
    · exact ⟨rfl, i + 1, false, rfl, rfl⟩
    · split
      · obtain ⟨h1, j, h2, h3⟩ := digF_shift hag m i 0
        exact ⟨h1, j, false, by rw [h2], by rw [h3]⟩
      · exact ⟨rfl, i, true, rfl, rfl⟩
theorem numsF_shift {A B : ByteArray} {a b : Nat} (hag : ∀ i, byteAt A (a + i) = byteAt B (b + i)) : ∀ (q i : Nat) (bad : Bool) (acc : List Nat), A.size - (a + i) = q → (numsF A ⟨a + i, bad⟩ acc).1 = (numsF B ⟨b + i, bad⟩ acc).1 := by
  intro q
  induction q using Nat.strongRecOn with
  | ind q ih =>
    intro i bad acc hq
    obtain ⟨e1, j, bd, e2, e3⟩ := numF_shift hag 3 i bad
    have hG := numF_ge A 3 ⟨a + i, bad⟩
    rw [numsF, numsF.eq_1 B]
    cases bad with
    | true => simp
    | false =>
      simp only [Bool.false_eq_true, if_false]
      rw [e2] at hG
      simp only at hG
      rw [e1, e2, e3]
      cases bd with
      | true =>
        have k1 : nextF A 44 ⟨a + j, true⟩ = (false, ⟨a + j, true⟩) := nextF_no (by simp)
        have k2 : nextF B 44 ⟨b + j, true⟩ = (false, ⟨b + j, true⟩) := nextF_no (by simp)
        rw [k1, k2]; simp
      | false =>
        by_cases hc : byteAt A (a + j) = 44
        · have hin := byteAt_in (s := A) (i := a + j) (by omega)
          have k1 : nextF A 44 ⟨a + j, false⟩ = (true, ⟨a + j + 1, false⟩) := nextF_yes hc
          have k2 : nextF B 44 ⟨b + j, false⟩ = (true, ⟨b + j + 1, false⟩) := nextF_yes (by rw [← hag j]; exact hc)
          rw [k1, k2]
          simp only [dite_true]
          exact ih (A.size - (a + (j + 1))) (by omega) (j + 1) false _ rfl
        · have k1 : nextF A 44 ⟨a + j, false⟩ = (false, ⟨a + j, false⟩) := nextF_no (by simp [hc])
          have k2 : nextF B 44 ⟨b + j, false⟩ = (false, ⟨b + j, false⟩) := nextF_no (by simp [← hag j, hc])
          rw [k1, k2]; simp

/-- A script with a longer clock: its clock goes on, its lengths are the same. -/
theorem longer {A B : ByteArray} {n n2 : Nat} (hA : scrOk A = true) (hB : scrOk B = true) (h1 : n < A.size) (h2 : n < n2) (h3 : n2 < B.size) (hag : ∀ i, i < n → byteAt A i = byteAt B i) (a1 : byteAt A n = 47) (b1 : byteAt B n = 44) (b2 : byteAt B n2 = 47) (hsh : ∀ i, byteAt A (n + 1 + i) = byteAt B (n2 + 1 + i)) (hsz : A.size - n = B.size - n2) :
    (∃ M, (scr1 B).1 = (scr1 A).1 ++ M) ∧ (scr2 A).1 = (scr2 B).1 := by
  obtain ⟨p1, p2, p3, p4, p5, p6⟩ := stroke hA
  obtain ⟨q1, q2, q3, q4, q5, q6⟩ := stroke hB
  have en := p6 n h1 a1
  have en2 := q6 n2 h3 b2
  rw [← en] at p3
  rw [← en2] at q3
  refine ⟨?_, ?_⟩
  · have hs1 : scr1 A = ((scr1 A).1, ⟨n, false⟩) := by
      rcases hh : scr1 A with ⟨v, ⟨p, b⟩⟩
      rw [hh] at en p1
      simp only at en p1
      rw [en, p1]
    by_cases hz : byteAt A 0 = 47
    · exfalso
      have : scr1 A = ([], ⟨0, false⟩) := by unfold scr1 numbersF; rw [if_pos (Or.inr ⟨by omega, hz⟩)]
      rw [this] at en
      simp only at en
      subst en
      have hb : scr1 B = numsF B ⟨0, false⟩ [] := by
        unfold scr1 numbersF
        rw [if_neg (by simp; rw [b1]; omega)]
      rw [numsF, if_neg (by simp), numF_no rfl (by simp only [b1]; omega)] at hb
      rw [nextF_no (by simp)] at hb
      simp at hb
      rw [hb] at q1
      cases q1
    · have hA1 : scr1 A = numsF A ⟨0, false⟩ [] := by
        unfold scr1 numbersF
        rw [if_neg (by simp; exact hz)]
      have hz' : byteAt B 0 ≠ 47 := by
        by_cases hn0 : n = 0
        · subst hn0; rw [b1]; omega
        · rw [← hag 0 (by omega)]; exact hz
      have hB1 : scr1 B = numsF B ⟨0, false⟩ [] := by
        unfold scr1 numbersF
        rw [if_neg (by simp; exact hz')]
      have := numsF_agree hag a1 b1 (n - 0) 0 [] (scr1 A).1 rfl (Nat.zero_le _) (hA1 ▸ hs1)
      rw [← hB1] at this
      rw [this]
      have hac := numsF_acc (s := B) _ ⟨n + 1, false⟩ (scr1 A).1 [] rfl
      rw [List.append_nil] at hac
      rw [hac]
      exact ⟨_, rfl⟩
  · unfold scr2
    rw [p3, q3]
    unfold numbersF
    by_cases hz : n + 1 = A.size
    · rw [if_pos (Or.inl ⟨rfl, hz⟩), if_pos (Or.inl ⟨rfl, by simp only; omega⟩)]
    · rw [if_neg (by simp; omega), if_neg (by simp; omega)]
      exact numsF_shift (a := n + 1) (b := n2 + 1) hsh _ 0 false [] rfl

end Hx
end Go.Proofs.YtppcnlkhdgmaiaaDoor
namespace Go.Proofs.YtppcnlkhdgmaiaaDoor
namespace Hx

theorem byteAt_data (s : ByteArray) (i : Nat) : byteAt s i = match s.data[i]? with | some b => b.toNat | none => 256 := by
  unfold byteAt
  by_cases h : i < s.size
  · rw [dif_pos h, Array.getElem?_eq_getElem h]; rfl
  · rw [dif_neg h, Array.getElem?_eq_none (by show s.size ≤ i; omega)]
theorem byteAt_left {a b : ByteArray} {i : Nat} (h : i < a.size) : byteAt (a ++ b) i = byteAt a i := by
  rw [byteAt_data, byteAt_data, ByteArray.data_append, Array.getElem?_append_left h]
theorem byteAt_right (a b : ByteArray) (i : Nat) : byteAt (a ++ b) (a.size + i) = byteAt b i := by
  rw [byteAt_data, byteAt_data, ByteArray.data_append, Array.getElem?_append_right (by show a.size ≤ _; omega)]
  have : a.size + i - a.data.size = i := by show a.size + i - a.size = i; omega
  rw [this]

/-- The two scripts of Onward. -/
theorem longer_texts (c m k : ByteArray) (hA : scrOk (c ++ ⟨#[47]⟩ ++ k) = true) (hB : scrOk (c ++ ⟨#[44]⟩ ++ m ++ ⟨#[47]⟩ ++ k) = true) :
    (∃ M, (scr1 (c ++ ⟨#[44]⟩ ++ m ++ ⟨#[47]⟩ ++ k)).1 = (scr1 (c ++ ⟨#[47]⟩ ++ k)).1 ++ M) ∧ (scr2 (c ++ ⟨#[47]⟩ ++ k)).1 = (scr2 (c ++ ⟨#[44]⟩ ++ m ++ ⟨#[47]⟩ ++ k)).1 := by
  have z1 : (⟨#[47]⟩ : ByteArray).size = 1 := rfl
  have z2 : (⟨#[44]⟩ : ByteArray).size = 1 := rfl
  have s1 : (c ++ ⟨#[47]⟩ : ByteArray).size = c.size + 1 := by rw [ByteArray.size_append, z1]
  have s2 : (c ++ ⟨#[44]⟩ : ByteArray).size = c.size + 1 := by rw [ByteArray.size_append, z2]
  have s3 : (c ++ ⟨#[44]⟩ ++ m : ByteArray).size = c.size + 1 + m.size := by rw [ByteArray.size_append, s2]
  have s4 : (c ++ ⟨#[44]⟩ ++ m ++ ⟨#[47]⟩ : ByteArray).size = c.size + 1 + m.size + 1 := by rw [ByteArray.size_append, s3, z1]
  have s5 : (c ++ ⟨#[47]⟩ ++ k : ByteArray).size = c.size + 1 + k.size := by rw [ByteArray.size_append, s1]
  have s6 : (c ++ ⟨#[44]⟩ ++ m ++ ⟨#[47]⟩ ++ k : ByteArray).size = c.size + 1 + m.size + 1 + k.size := by rw [ByteArray.size_append, s4]
  refine longer (n := c.size) (n2 := c.size + 1 + m.size) hA hB (by omega) (by omega) (by omega) ?_ ?_ ?_ ?_ ?_ (by omega)
  · intro i hi
    rw [byteAt_left (by omega), byteAt_left (by omega), byteAt_left (by omega), byteAt_left (by omega), byteAt_left (by omega), byteAt_left (by omega)]
  · rw [byteAt_left (by omega)]
    have := byteAt_right c ⟨#[47]⟩ 0
    rw [Nat.add_zero] at this
    rw [this]; rfl
  · rw [byteAt_left (by omega), byteAt_left (by omega), byteAt_left (by omega)]
    have := byteAt_right c ⟨#[44]⟩ 0
    rw [Nat.add_zero] at this
    rw [this]; rfl
  · rw [byteAt_left (by omega)]
    have := byteAt_right (c ++ ⟨#[44]⟩ ++ m) ⟨#[47]⟩ 0
    rw [Nat.add_zero, s3] at this
    rw [this]; rfl
  · intro i
    have h1 := byteAt_right (c ++ ⟨#[47]⟩) k i
    have h2 := byteAt_right (c ++ ⟨#[44]⟩ ++ m ++ ⟨#[47]⟩) k i
    rw [s1] at h1
    rw [s4] at h2
    rw [h1, h2]

/-- How many are read. -/
theorem numsF_count {s : ByteArray} (n : Nat) : ∀ (st : St) (acc : List Nat), s.size - st.pos = n → (numsF s st acc).1.length ≤ acc.length + (s.size - st.pos) + 1 := by
  induction n using Nat.strongRecOn with
  | ind n ih =>
    intro st acc hn
    have hG := numF_ge s 3 st
    rw [numsF]
    split
    · simp only; omega
    · split
      · rename_i hq
        obtain ⟨_, _, h3, h4⟩ := nextF_in (by omega) hq
        rw [h4]
        have := ih (s.size - ((numF s 3 st).2.pos + 1)) (by omega) ⟨(numF s 3 st).2.pos + 1, false⟩ (acc ++ [(numF s 3 st).1]) rfl
        refine Nat.le_trans this ?_
        simp only [List.length_append, List.length_cons, List.length_nil]
        omega
      · simp only [List.length_append, List.length_cons, List.length_nil]; omega
theorem numbersF_count {s : ByteArray} {c : Nat} {st : St} : (numbersF s c st).1.length ≤ s.size + 1 := by
  unfold numbersF
  split
  · simp
  · have := numsF_count (s := s) _ st [] rfl
    simp only [List.length_nil] at this
    omega
theorem tablesF_len (s : ByteArray) (st : St) (acc : List TStp) : (tablesF s st acc).2.length ≤ acc.length + mT s st := by
  induction st, acc using tablesF.induct (s := s) with
  | case1 st acc hc ih =>
    rw [tablesF, dif_pos hc]
    have h := mT_lt hc.1 hc.2
    rw [List.length_append, List.length_cons, List.length_nil] at ih
    omega
  | case2 st acc hc =>
    rw [tablesF, dif_neg hc]
    simp only; omega
theorem tableF_len (s : ByteArray) : (tableF s).2.length ≤ 2 * s.size + 2 := by
  have h := tablesF_len s (theadF s).2 []
  have h2 : mT s (theadF s).2 ≤ 2 * s.size + 2 := by unfold mT; split <;> omega
  rw [List.length_nil] at h
  unfold tableF
  omega

end Hx
end Go.Proofs.YtppcnlkhdgmaiaaDoor
namespace Go.Proofs.YtppcnlkhdgmaiaaDoor
open Go.RowKit

theorem Hx.cutF_none (l : List UInt8) (h : ∀ b ∈ l, b ≠ 59) : Hx.cutF l = (l, []) := by
  induction l with
  | nil => rfl
  | cons b r ih => rw [Hx.cutF, if_neg (h b (by simp)), ih (fun c hc => h c (by simp [hc]))]
theorem Hx.cutF_there {l : List UInt8} {i : Nat} (hi : l[i]? = some 59) (h : ∀ j, j < i → l[j]? ≠ some 59) : Hx.cutF l = (l.take i, l.drop (i + 1)) := by
  induction l generalizing i with
  | nil => simp at hi
  | cons b r ih =>
    cases i with
    | zero =>
      simp at hi
      rw [Hx.cutF, if_pos hi]; simp
    | succ i =>
      have h0 := h 0 (by omega)
      simp at h0
      rw [Hx.cutF, if_neg h0, ih (by simpa using hi) (fun j hj => by have := h (j + 1) (by omega); simpa using this)]
      simp

set_option maxHeartbeats 1000000 in
theorem cut_any (s : ByteArray) (w : World) (hs : s.size ≤ 1000000000) :
    Calls Tryd.prog 28 #[.string s] w fun e w' => e = .returned (.tuple #[.string ⟨(Hx.cutF s.data.toList).1.toArray⟩, .string ⟨(Hx.cutF s.data.toList).2.toArray⟩]) ∧ ∃ n, w' = w.drewN n := by
  obtain ⟨FIN, hFIN⟩ : ∃ FIN, FIN = Hx.cutF s.data.toList := ⟨_, rfl⟩
  rw [← hFIN]
  have HFIN := hide hFIN
  clear hFIN
  go_enter Tryd.func28, Tryd.ntmps28
  go_wp2_with fail
  go_loopg [4] s.size (fun gk kk wr => ∃ i : Nat, i ≤ s.size ∧ gk = s.size - i ∧ kk = .int .i64 (i : Int) ∧ wr = w ∧ Hid (∀ j, j < i → s.data.toList[j]? ≠ some 59))
  case atStart => exact ⟨0, Nat.zero_le _, rfl, rfl, rfl, fun j hj => absurd hj (Nat.not_lt_zero _)⟩
  case round =>
    obtain ⟨i, hi, rfl, rfl, rfl, HN⟩ := hrel
    by_cases hlt : i < s.size
    · have hiI : (i : Int) < (s.size : Int) := by omega
      have hi0 : (0 : Int) ≤ (i : Int) := by omega
      by_cases hb : s[i] = 59
      · have HF : Hid (FIN = ((s.data.toList).take i, (s.data.toList).drop (i + 1))) := by
          show _ = _
          rw [unhide HFIN]
          refine Hx.cutF_there ?_ (unhide HN)
          rw [Array.getElem?_toList, Array.getElem?_eq_getElem hlt]
          exact congrArg some hb
        clear HFIN
        go_wp2_with fail
        go_quiet (fail)
        go_wp2_with fail
        go_returns
        rw [unhide HF]
        refine ⟨?_, _, rfl⟩
        have e1 : s.extract 0 i = ⟨(List.take i s.data.toList).toArray⟩ := by
          apply ByteArray.ext
          rw [ByteArray.data_extract]
          apply Array.ext'
          simp
        have e2 : s.extract (i + 1) s.size = ⟨(List.drop (i + 1) s.data.toList).toArray⟩ := by
          apply ByteArray.ext
          rw [ByteArray.data_extract]
          apply Array.ext'
          simp
          exact List.take_of_length_le (by simp)
        rw [e1, e2]
        rfl
      · have hbI : ((s[i].toNat : Int) == 59) = false := by
          rw [beq_eq_false_iff_ne]
          intro e
          apply hb
          apply UInt8.toNat_inj.1
          show s[i].toNat = 59
          omega
        have HN2 : Hid (∀ j, j < i + 1 → s.data.toList[j]? ≠ some 59) := fun j hj => by
          by_cases e : j = i
          · subst e
            rw [Array.getElem?_toList, Array.getElem?_eq_getElem hlt]
            exact fun g => hb (Option.some.inj g)
          · exact unhide HN j (by omega)
        clear HFIN HN hb
        go_wp2_with fail
        go_roundg (s.size - (i + 1))
        case measure => omega
        case rel => exact ⟨i + 1, by omega, rfl, by go_num, rfl, HN2⟩
    · have hiI : ¬ (i : Int) < (s.size : Int) := by omega
      have HF : Hid (FIN = (s.data.toList, [])) := by
        show _ = _
        rw [unhide HFIN]
        refine Hx.cutF_none _ (fun b hb e => ?_)
        obtain ⟨j, hj, e2⟩ := List.mem_iff_getElem.1 hb
        have hjs : j < s.size := by simpa using hj
        exact unhide HN j (by omega) (by rw [List.getElem?_eq_getElem hj, e2, e])
      clear HFIN HN
      go_wp2_with fail
      go_returns
      refine ⟨?_, 0, rfl⟩
      rw [unhide HF]
      show _ = Ending.returned (.tuple #[.string ⟨s.data.toList.toArray⟩, .string ⟨#[]⟩])
      rw [Array.toArray_toList]
      rfl

end Go.Proofs.YtppcnlkhdgmaiaaDoor
namespace Go.Proofs.YtppcnlkhdgmaiaaDoor
open Go.RowKit

theorem Hx.wrongF_zero {l : List Hx.TStp} (n : Nat) : ∀ k, l.length - k = n → (Hx.wrongF l k).1 = 0 → Hx.wrongF l k = (0, 0) := by
  induction n with
  | zero =>
    intro k hk h
    rw [Hx.wrongF, if_neg (by omega)]
  | succ n ih =>
    intro k hk h
    rw [Hx.wrongF, if_pos (by omega)] at h ⊢
    split at h
    · rename_i g
      rw [if_pos g]
      exact ih (k + 1) (by omega) h
    · simp at h
/-- What is known of a Run without an error. -/
theorem Hx.run_zero {s t : ByteArray} (h : (Hx.refRunF s t).2 = 0) :
    s.size ≤ 400 ∧ t.size ≤ 800 ∧ Hx.scrOk t = true ∧ (Hx.tableF s).1.bad = false ∧ Hx.Right (Hx.tableF s).2 ∧ (Hx.refRunF s t).1 = Hx.tellF (Hx.tableF s).2 (Hx.machF (Hx.tableF s).2 (Hx.theadF s).1 (Hx.scr1 t).1 (Hx.scr2 t).1) := by
  unfold Hx.refRunF at h ⊢
  split at h
  · simp at h
  · rename_i g1
    rw [if_neg g1]
    split at h
    · rename_i g2; exact absurd h g2
    · rename_i g2
      rw [if_neg g2]
      split at h
      · simp at h
      · rename_i g3
        rw [if_neg g3]
        have hl : (Hx.lookF s).1 = 0 := by
          rcases Int.instDecidableEq (Hx.lookF s).1 0 with g | g
          · exact absurd g g2
          · exact g
        unfold Hx.lookF at hl
        rw [if_neg (by omega)] at hl
        split at hl
        · simp at hl
        · rename_i g4
          have hr : Hx.Right (Hx.tableF s).2 := Hx.right_of (Hx.wrongF_zero _ 0 rfl hl)
          refine ⟨by omega, by omega, by simpa using g3, by simpa using g4, hr, ?_⟩
          rw [Hx.machine_is hr]
          rfl
/-- What Onward asks. -/
theorem Hx.onward {s c m k : ByteArray} (h1 : (Hx.refRunF s (c ++ ⟨#[47]⟩ ++ k)).2 = 0) (h2 : (Hx.refRunF s (c ++ ⟨#[44]⟩ ++ m ++ ⟨#[47]⟩ ++ k)).2 = 0) :
    ((Hx.cutF (Hx.refRunF s (c ++ ⟨#[47]⟩ ++ k)).1).1 ≠ [111, 112, 101, 110] → (Hx.refRunF s (c ++ ⟨#[47]⟩ ++ k)).1 = (Hx.refRunF s (c ++ ⟨#[44]⟩ ++ m ++ ⟨#[47]⟩ ++ k)).1) ∧
    (Hx.cutF (Hx.refRunF s (c ++ ⟨#[47]⟩ ++ k)).1).2 <+: (Hx.cutF (Hx.refRunF s (c ++ ⟨#[44]⟩ ++ m ++ ⟨#[47]⟩ ++ k)).1).2 := by
  obtain ⟨_, _, a3, _, a5, a6⟩ := Hx.run_zero h1
  obtain ⟨_, _, b3, _, _, b6⟩ := Hx.run_zero h2
  obtain ⟨⟨M, hM⟩, hT⟩ := Hx.longer_texts c m k a3 b3
  rw [a6, b6, hM, ← hT]
  exact Hx.onward_tell a5.ok _ _ M _

theorem Hx.told_len (s t : ByteArray) : (Hx.refRunF s t).1.length ≤ 1000000 := by
  by_cases h : (Hx.refRunF s t).2 = 0
  · obtain ⟨h1, h2, _, _, _, h6⟩ := Hx.run_zero h
    have c1 := Hx.numbersF_count (s := t) (c := 47) (st := ⟨0, false⟩)
    have c2 := sum_le_mul (Hx.scr1 t).1 (fun v hv => Hx.numbersF_lt v hv)
    have c3 : (Hx.scr1 t).1.length ≤ t.size + 1 := c1
    have lk := mach_lk (l := (Hx.tableF s).2) (J := (Hx.theadF s).1) (clock := (Hx.scr1 t).1) (takes := (Hx.scr2 t).1) (fun v hv => Hx.numbersF_lt v hv) (by omega)
    have e1 := evB_len (Hx.tableF s).2 (Hx.machF (Hx.tableF s).2 (Hx.theadF s).1 (Hx.scr1 t).1 (Hx.scr2 t).1).2.sts lk.st
    have e2 := lk.len
    have e3 := Hx.tableF_len s
    have e4 := outB_len (Hx.machF (Hx.tableF s).2 (Hx.theadF s).1 (Hx.scr1 t).1 (Hx.scr2 t).1).1
    rw [h6, Hx.tellF_head, List.length_append, List.length_cons]
    have e5 : (Hx.headB (Hx.tableF s).2 (Hx.machF (Hx.tableF s).2 (Hx.theadF s).1 (Hx.scr1 t).1 (Hx.scr2 t).1)).length ≤ 9 := by
      unfold Hx.headB
      rw [List.length_append]
      have : (if 2 ≤ (Hx.machF (Hx.tableF s).2 (Hx.theadF s).1 (Hx.scr1 t).1 (Hx.scr2 t).1).1 then [32] ++ Hx.nameAt (Hx.tableF s).2 (Hx.machF (Hx.tableF s).2 (Hx.theadF s).1 (Hx.scr1 t).1 (Hx.scr2 t).1).2.k else []).length ≤ 3 := by
        split
        · unfold Hx.nameAt
          split <;> simp [Hx.nmB]
        · simp
      omega
    omega
  · unfold Hx.refRunF at h ⊢
    split
    · simp
    · rename_i g1
      rw [if_neg g1] at h
      split
      · simp
      · rename_i g2
        rw [if_neg g2] at h
        split
        · simp
        · rename_i g3
          rw [if_neg g3] at h
          exact absurd rfl h
abbrev smpB : ByteArray := ⟨#[106, 49, 59, 97, 48, 64, 48, 43, 50, 45, 51, 62, 48, 59, 98, 48, 64, 52, 43, 49, 45, 49, 59, 97, 49, 64, 57, 43, 52, 45, 52, 60, 48, 58, 53, 45, 57]⟩
abbrev scrB1 : ByteArray := ⟨#[50, 44, 50, 44, 50, 44, 50, 44, 50, 44, 50, 44, 50, 44, 50, 47, 51, 44, 49, 44, 52]⟩
abbrev scrB2 : ByteArray := ⟨#[51, 44, 51, 44, 51, 47, 50, 44, 49, 44, 52]⟩
set_option maxRecDepth 100000 in
theorem Hx.ran1 : Hx.refRunF smpB scrB1 = ([100, 111, 110, 101, 59, 97, 48, 58, 48, 45, 51, 44, 98, 48, 58, 52, 45, 53, 44, 97, 49, 58, 49, 48, 45, 49, 52], 0) := by decide +kernel
set_option maxRecDepth 100000 in
theorem Hx.ran2 : Hx.refRunF smpB scrB2 = ([108, 97, 116, 101, 32, 98, 48, 59, 97, 48, 58, 48, 45, 50], 0) := by decide +kernel

theorem run_ex1 (w : World) (h : RunE w) : Calls Tryd.prog 27 #[.string smpB, .string scrB1] w fun e w' => e = .returned (.tuple #[.string ⟨#[100, 111, 110, 101, 59, 97, 48, 58, 48, 45, 51, 44, 98, 48, 58, 52, 45, 53, 44, 97, 49, 58, 49, 48, 45, 49, 52]⟩, .int .i64 0]) ∧ Below w.heap.size w w' := by
  have := run_any smpB scrB1 w (by decide) (by decide) h.1 h.2.1 h.2.2
  rw [Hx.ran1] at this
  exact this
theorem run_ex2 (w : World) (h : RunE w) : Calls Tryd.prog 27 #[.string smpB, .string scrB2] w fun e w' => e = .returned (.tuple #[.string ⟨#[108, 97, 116, 101, 32, 98, 48, 59, 97, 48, 58, 48, 45, 50]⟩, .int .i64 0]) ∧ Below w.heap.size w w' := by
  have := run_any smpB scrB2 w (by decide) (by decide) h.1 h.2.1 h.2.2
  rw [Hx.ran2] at this
  exact this

set_option maxRecDepth 100000 in
set_option maxHeartbeats 1000000 in
theorem ran_any (w : World) (h : RunE w) : Calls Tryd.prog 26 #[] w fun e w' => e = .returned (.bool true) ∧ Below w.heap.size w w' := by
  have HR1 := hide (run_ex1 w h)
  have HE := hide h
  clear h
  go_enter Tryd.func26, Tryd.ntmps26
  go_wp2_with fail
  refine (unhide HR1).mono ?_
  rintro e w1 ⟨rfl, hb1⟩
  have HE1 := hide (lasts_run _ _ (unhide HE) hb1)
  have HB1 := hide hb1
  clear hb1
  go_wp2_with fail
  refine (run_ex2 w1 (unhide HE1)).mono ?_
  rintro e w2 ⟨rfl, hb2⟩
  have HB2 := hide ((unhide HB1).trans (hb2.mono (unhide HB1).size))
  clear hb2
  go_wp2_with fail
  go_returns
  exact ⟨rfl, unhide HB2⟩

set_option maxRecDepth 100000 in
set_option maxHeartbeats 4000000 in
theorem onward_any (s c m k : ByteArray) (w : World) (hs : s.size ≤ reachBytes) (hc : c.size ≤ reachBytes) (hm : m.size ≤ reachBytes) (hk : k.size ≤ reachBytes) (hE : RunE w) :
    Calls Tryd.prog 9 #[.string s, .string c, .string m, .string k] w fun e w' => e = .returned (.bool true) ∧ Below w.heap.size w w' := by
  unfold reachBytes at hs hc hm hk
  obtain ⟨A, hA⟩ : ∃ A, A = Hx.refRunF s (c ++ ⟨#[47]⟩ ++ k) := ⟨_, rfl⟩
  obtain ⟨B, hB⟩ : ∃ B, B = Hx.refRunF s (c ++ ⟨#[44]⟩ ++ m ++ ⟨#[47]⟩ ++ k) := ⟨_, rfl⟩
  have z1 : (⟨#[47]⟩ : ByteArray).size = 1 := rfl
  have z2 : (⟨#[44]⟩ : ByteArray).size = 1 := rfl
  have hA1 : (c ++ ⟨#[47]⟩ ++ k : ByteArray).size ≤ maxLen := by unfold maxLen; rw [ByteArray.size_append, ByteArray.size_append, z1]; omega
  have hB1 : (c ++ ⟨#[44]⟩ ++ m ++ ⟨#[47]⟩ ++ k : ByteArray).size ≤ maxLen := by unfold maxLen; rw [ByteArray.size_append, ByteArray.size_append, ByteArray.size_append, ByteArray.size_append, z1, z2]; omega
  have HRA : Hid (∀ w', RunE w' → Calls Tryd.prog 27 #[.string s, .string (c ++ ⟨#[47]⟩ ++ k)] w' fun e w2 => e = .returned (.tuple #[.string ⟨A.1.toArray⟩, .int .i64 A.2]) ∧ Below w'.heap.size w' w2) := by
    intro w' h; rw [hA]; exact run_any _ _ w' (by unfold maxLen; omega) hA1 h.1 h.2.1 h.2.2
  have HRB : Hid (∀ w', RunE w' → Calls Tryd.prog 27 #[.string s, .string (c ++ ⟨#[44]⟩ ++ m ++ ⟨#[47]⟩ ++ k)] w' fun e w2 => e = .returned (.tuple #[.string ⟨B.1.toArray⟩, .int .i64 B.2]) ∧ Below w'.heap.size w' w2) := by
    intro w' h; rw [hB]; exact run_any _ _ w' (by unfold maxLen; omega) hB1 h.1 h.2.1 h.2.2
  have HON : Hid (A.2 = 0 → B.2 = 0 → ((Hx.cutF A.1).1 ≠ [111, 112, 101, 110] → A.1 = B.1) ∧ (Hx.cutF A.1).2 <+: (Hx.cutF B.1).2) := by
    intro h1 h2
    rw [hA] at h1
    rw [hB] at h2
    rw [hA, hB]
    exact Hx.onward h1 h2
  have HLA : Hid (A.1.length ≤ 1000000) := by show _ ≤ _; rw [hA]; exact Hx.told_len _ _
  have HLB : Hid (B.1.length ≤ 1000000) := by show _ ≤ _; rw [hB]; exact Hx.told_len _ _
  clear hA hB hA1 hB1 z1 z2
  have HR0 := hide (ran_any w hE)
  have HE := hide hE
  clear hE
  have n1 : ¬ 9223372036854775807 < c.size + 1 := by omega
  have n2 : ¬ 9223372036854775807 < c.size + 1 + k.size := by omega
  have n3 : ¬ 9223372036854775807 < c.size + 1 + m.size := by omega
  have n4 : ¬ 9223372036854775807 < c.size + 1 + m.size + 1 := by omega
  have n5 : ¬ 9223372036854775807 < c.size + 1 + m.size + 1 + k.size := by omega
  go_enter Tryd.func9, Tryd.ntmps9
  go_wp2_with fail
  refine (unhide HR0).mono ?_
  rintro e w1 ⟨rfl, hb1⟩
  have HE1 := hide (lasts_run _ _ (unhide HE) hb1)
  have HB1 := hide hb1
  clear hb1
  go_wp2_with fail
  refine (unhide HRA w1 (unhide HE1)).mono ?_
  rintro e w2 ⟨rfl, hb2⟩
  have HE2 := hide (lasts_run _ _ (unhide HE1) hb2)
  have HB2 := hide ((unhide HB1).trans (hb2.mono (unhide HB1).size))
  clear hb2
  go_wp2_with fail
  refine (unhide HRB w2 (unhide HE2)).mono ?_
  rintro e w3 ⟨rfl, hb3⟩
  have HB3 := hide ((unhide HB2).trans (hb3.mono (unhide HB2).size))
  clear hb3 HRA HRB HR0 HE HE1 HE2 HB1 HB2
  obtain ⟨a1, a2⟩ := A
  obtain ⟨b1, b2⟩ := B
  simp only at HON HLA HLB ⊢
  by_cases ha : a2 = 0
  · subst ha
    by_cases hb : b2 = 0
    · subst hb
      obtain ⟨o1, o2⟩ := unhide HON rfl rfl
      clear HON
      go_wp2_with fail
      refine (cut_any ⟨a1.toArray⟩ w3 (Nat.le_trans (unhide HLA) (by omega))).mono ?_
      rintro e w4 ⟨rfl, n, hw4⟩
      have HB4 : Hid (Below w.heap.size w w4) := by rw [hw4]; exact below_drewN (unhide HB3) n
      clear hw4
      go_wp2_with fail
      refine (cut_any ⟨b1.toArray⟩ w4 (Nat.le_trans (unhide HLB) (by omega))).mono ?_
      rintro e w5 ⟨rfl, n5', hw5⟩
      have HB5 : Hid (Below w.heap.size w w5) := by rw [hw5]; exact below_drewN (unhide HB4) n5'
      clear hw5
      have hda : (⟨a1.toArray⟩ : ByteArray).data.toList = a1 := by simp
      have hdb : (⟨b1.toArray⟩ : ByteArray).data.toList = b1 := by simp
      rw [hdb]
      obtain ⟨how, rest, hca⟩ : ∃ how rest, Hx.cutF a1 = (how, rest) := ⟨_, _, rfl⟩
      obtain ⟨how2, aft, hcb⟩ : ∃ how rest, Hx.cutF b1 = (how, rest) := ⟨_, _, rfl⟩
      rw [hca, hcb] at o2
      rw [hca] at o1
      rw [hca, hcb]
      simp only at o1 o2 ⊢
      clear hda hdb hca hcb
      by_cases hop : how = [111, 112, 101, 110]
      · subst hop
        clear o1
        have hle : rest.length ≤ aft.length := o2.length_le
        have hex : ((⟨aft.toArray⟩ : ByteArray).extract 0 rest.length).toList == rest := by
          obtain ⟨z, rfl⟩ := o2
          have e1 : (⟨(rest ++ z).toArray⟩ : ByteArray).extract 0 rest.length = ⟨rest.toArray⟩ := by
            apply ByteArray.ext
            rw [ByteArray.data_extract]
            apply Array.ext'
            simp
          rw [e1]
          simp
        have HOK := hide o2
        clear o2
        go_wp2_with fail
        go_returns
        exact ⟨rfl, unhide HB5⟩
      · have HEQ := o1 hop
        subst HEQ
        clear o1 o2
        have hno : (!how == [111, 112, 101, 110]) = true := by simpa using hop
        clear hop
        go_wp2_with fail
        go_returns
        exact ⟨rfl, unhide HB5⟩
    · have hbI : (b2 != 0) = true := by simpa using hb
      clear HON hb
      go_wp2_with fail
      go_returns
      exact ⟨rfl, unhide HB3⟩
  · have haI : (a2 != 0) = true := by simpa using ha
    clear HON ha
    go_wp2_with fail
    go_returns
    exact ⟨rfl, unhide HB3⟩

end Go.Proofs.YtppcnlkhdgmaiaaDoor
