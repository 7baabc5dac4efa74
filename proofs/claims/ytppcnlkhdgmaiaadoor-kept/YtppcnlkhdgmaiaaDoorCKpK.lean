/- What the law does at a step that is a Check. What looked and Look answer: the table, or the error and its place. What Kept answers. -/
import Derived.Test.YtppcnlkhdgmaiaaDoorCPf
import Derived.Test.YtppcnlkhdgmaiaaDoorCRfF
import Derived.Test.YtppcnlkhdgmaiaaDoorCRtD
import Derived.Test.YtppcnlkhdgmaiaaDoorCRrB
import Derived.Test.YtppcnlkhdgmaiaaDoorCSm
import Derived.Test.YtppcnlkhdgmaiaaDoorCTq
import Derived.Deep.RegionHeld3
namespace Go.Proofs.YtppcnlkhdgmaiaaDoor
open Go.RowKit

end Go.Proofs.YtppcnlkhdgmaiaaDoor
namespace Go.Proofs.YtppcnlkhdgmaiaaDoor
open Go.RowKit

/-- What looked answers. -/
def LkRes (s : ByteArray) (w : World) (e : Ending) (w' : World) : Prop := Below w.heap.size w w' ∧
  (((Hx.lookF s).1 ≠ 0 ∧ e = .returned (.tuple #[.agg #[.int .i64 0, .slice none 0 0], .int .i64 (Hx.lookF s).1, .int .i64 (Hx.lookF s).2])) ∨
   (Hx.lookF s = (0, 0) ∧ s.size ≤ 400 ∧ (Hx.tableF s).1.bad = false ∧ Hx.wrongF (Hx.tableF s).2 0 = (0, 0) ∧ (Hx.tableF s).2.length ≤ 401 ∧ ∃ v, e = .returned (.tuple #[.agg #[.int .i64 ((Hx.theadF s).1 : Int), v], .int .i64 0, .int .i64 0]) ∧ w'.ownsRow w.heap.size 153 11 v (Hx.tableF s).2.length (ptsCells (Hx.tableF s).2)))

theorem wrongF_cases (l : List Hx.TStp) (k : Nat) : Hx.wrongF l k = (0, 0) ∨ ∃ j : Nat, Hx.wrongF l k = (9, (j : Int)) := by
  induction k using Hx.wrongF.induct (l := l) with
  | case1 k hk hr ih => rw [Hx.wrongF_step hk, if_pos hr]; exact ih
  | case2 k hk hr => rw [Hx.wrongF_step hk, if_neg hr]; exact Or.inr ⟨k, rfl⟩
  | case3 k hk => rw [Hx.wrongF_end hk]; exact Or.inl rfl

theorem own_set_low {w : World} {base : Nat} {e : TypeId} {size : Nat} {v : Value} {n : Nat} {xs : List Value} (h : w.ownsRow base e size v n xs) {k : Nat} (hk : k < base) (o : Nat) (x : Value) : (w.setCell ⟨k, o, none⟩ x).ownsRow base e size v n xs := h.kept (grown_set w k o x) (own_ne h hk)

set_option maxRecDepth 100000 in
set_option maxHeartbeats 4000000 in
theorem looked_any (s : ByteArray) (w : World) (hs : s.size ≤ maxLen) (ht : Tab w) : Calls Tryd.prog 40 #[.string s] w (LkRes s w) := by
  unfold maxLen at hs
  have HT := hide ht
  clear ht
  obtain ⟨R, hR⟩ : ∃ R, R = LkRes s w := ⟨_, rfl⟩
  rw [← hR]
  have HR := hide hR
  clear hR
  go_enter Tryd.func40, Tryd.ntmps40
  by_cases hb : 400 < s.size
  · have HE : Hid (Hx.lookF s = (1, 0)) := if_pos hb
    have hbI : (400 : Int) < (s.size : Int) := by omega
    clear hb
    go_wp2_with fail
    refine bodyPost_ret (v := .tuple #[.agg #[.int .i64 0, .slice none 0 0], .int .i64 1, .int .i64 0]) (by simp [results, Tryd.results40, go_sem]) rfl ?_
    rw [unhide HR]
    refine ⟨(Below.refl _ _).alloc (Nat.le_refl _) _, Or.inl ⟨by rw [unhide HE]; decide, by rw [unhide HE]⟩⟩
  · have HE : Hid (Hx.lookF s = if (Hx.tableF s).1.bad then (2, ((Hx.tableF s).1.pos : Int)) else Hx.wrongF (Hx.tableF s).2 0) := if_neg hb
    have hbI : ¬ (400 : Int) < (s.size : Int) := by omega
    have hs4 : s.size ≤ 400 := by omega
    clear hb
    have HRD := hide (readtable_any s (w.alloc (.cells #[.int .i64 0, .slice none 0 0] 103)) hs4 ((unhide HT).alloc _))
    have HB0 := hide (blk_new w #[.int .i64 0, .slice none 0 0] 103)
    have HBE0 := hide (belA (.cells #[.int .i64 0, .slice none 0 0] 103) (Below.refl w.heap.size w))
    have hsz : (w.alloc (.cells #[.int .i64 0, .slice none 0 0] 103)).heap.size = w.heap.size + 1 := by simp
    go_wp2_with fail
    refine (unhide HRD).mono ?_
    rintro e w1 ⟨hbe, ⟨hbad, rfl⟩ | ⟨hbad, v, rfl, hown, hlen⟩⟩
    · have HE2 : Hid (Hx.lookF s = (2, ((Hx.tableF s).1.pos : Int))) := by show _ = _; rw [unhide HE, hbad]; rfl
      have HB1 := hide ((hbe.block _ (lt_of_block (unhide HB0))).trans (unhide HB0))
      have HBE := hide ((unhide HBE0).trans (hbe.mono (unhide HBE0).size))
      clear hbe hbad HE HRD HB0 HBE0
      have e0 : ∀ o, (w1.alloc o).cell? ⟨w.heap.size, 0, none⟩ = some (.int .i64 0) := fun o => cA o (blk_cell (unhide HB1) 0)
      have e1 : ∀ o, (w1.alloc o).cell? ⟨w.heap.size, 1, none⟩ = some (.slice none 0 0) := fun o => cA o (blk_cell (unhide HB1) 1)
      have ef : ∀ o k, (w1.alloc o).frozen? ⟨w.heap.size, k, none⟩ = false := fun o k => blk_free (bA o (unhide HB1)) k
      go_wp2_with fail
      refine bodyPost_ret (v := .tuple #[.agg #[.int .i64 0, .slice none 0 0], .int .i64 2, .int .i64 ((Hx.tableF s).1.pos : Int)]) (by simp [results, Tryd.results40, go_sem, e0, e1]) rfl ?_
      rw [unhide HR]
      refine ⟨?_, Or.inl ⟨by rw [unhide HE2]; exact (by decide : (2 : Int) ≠ 0), by rw [unhide HE2]⟩⟩
      have hle := Nat.le_refl w.heap.size
      exact (((unhide HBE).alloc (unhide HBE).size _).setCell hle _).setCell hle _
    · have HE2 : Hid (Hx.lookF s = Hx.wrongF (Hx.tableF s).2 0) := by show _ = _; rw [unhide HE, hbad]; rfl
      obtain ⟨l, hl⟩ : ∃ l, l = (Hx.tableF s).2 := ⟨_, rfl⟩
      obtain ⟨J, hJ⟩ : ∃ J, J = (Hx.theadF s).1 := ⟨_, rfl⟩
      have HOK : Hid (∀ y ∈ l, Hx.TOk y) := by rw [hl]; exact Hx.tableF_ok s
      rw [← hl] at hown hlen HE2
      rw [← hJ]
      have HL := hide hl
      have HJ := hide hJ
      have HBAD := hide hbad
      clear HE hbad hl hJ
      obtain ⟨ao, cap, rfl⟩ := own_form hown
      have HB1 := hide (bA (.cells #[.int .i64 (J : Int), .slice ao l.length cap] 103) ((hbe.block _ (lt_of_block (unhide HB0))).trans (unhide HB0)))
      have HBE := hide (belA (.cells #[.int .i64 (J : Int), .slice ao l.length cap] 103) ((unhide HBE0).trans (hbe.mono (unhide HBE0).size)))
      have HT1 := hide (bN #[.int .i64 (J : Int), .slice ao l.length cap] 103 (w := w1) rfl)
      rw [hsz] at hown
      have HOWN := hide (hown.alloc (.cells #[.int .i64 (J : Int), .slice ao l.length cap] 103))
      have htb : w.heap.size < w1.heap.size := by have := hbe.size; omega
      clear hbe HRD HB0 HBE0 hown hsz
      go_upto_region 6 with fail
      obtain ⟨tb, htb2⟩ : ∃ tb, tb = w1.heap.size := ⟨_, rfl⟩
      rw [← htb2] at HT1 htb ⊢
      clear htb2
      generalize w1.alloc (.cells #[.int .i64 (J : Int), .slice ao l.length cap] 103) = w2 at *
      have t1 : w2.cell? ⟨tb, 1, none⟩ = some (.slice ao l.length cap) := blk_cell (unhide HT1) 1
      go_wp2_with fail
      refine (notright_any l _ w2 (own_mono (unhide HOWN) (Nat.zero_le _)) hlen (unhide HOK)).mono ?_
      rintro e w3 ⟨rfl, hb3⟩
      have HB3 := hide ((hb3.block _ (lt_of_block (unhide HB1))).trans (unhide HB1))
      have HT3 := hide ((hb3.block _ (lt_of_block (unhide HT1))).trans (unhide HT1))
      have HBE3 := hide ((unhide HBE).trans (hb3.mono (unhide HBE).size))
      have HOWN3 := hide (own_below (unhide HOWN) hb3)
      clear hb3 HB1 HT1 HBE HOWN t1
      have e0 : w3.cell? ⟨w.heap.size, 0, none⟩ = some (.int .i64 0) := blk_cell (unhide HB3) 0
      have e1 : w3.cell? ⟨w.heap.size, 1, none⟩ = some (.slice none 0 0) := blk_cell (unhide HB3) 1
      have ef : ∀ k, w3.frozen? ⟨w.heap.size, k, none⟩ = false := fun k => blk_free (unhide HB3) k
      have t0 : w3.cell? ⟨tb, 0, none⟩ = some (.int .i64 (J : Int)) := blk_cell (unhide HT3) 0
      have t1 : w3.cell? ⟨tb, 1, none⟩ = some (.slice ao l.length cap) := blk_cell (unhide HT3) 1
      have hle := Nat.le_refl w.heap.size
      rcases wrongF_cases l 0 with hw | ⟨j, hw⟩
      · have HW := hide hw
        rw [hw]
        clear hw
        have hf : ((0 : Int) != 0) = false := by decide
        go_wp2_with fail
        refine bodyPost_ret (v := .tuple #[.agg #[.int .i64 (J : Int), .slice ao l.length cap], .int .i64 0, .int .i64 0]) (by simp [results, Tryd.results40, go_sem, e0, e1]) rfl ?_
        rw [unhide HR]
        refine ⟨((unhide HBE3).setCell hle _).setCell hle _, Or.inr ⟨by rw [unhide HE2, unhide HW], hs4, unhide HBAD, by rw [← unhide HL]; exact unhide HW, by rw [← unhide HL]; exact hlen, _, by rw [← unhide HJ], ?_⟩⟩
        rw [← unhide HL]
        exact own_mono (own_set_low (own_set_low (unhide HOWN3) (by omega) _ _) (by omega) _ _) (by omega)
      · have HW := hide hw
        rw [hw]
        clear hw
        have hf : ((9 : Int) != 0) = true := by decide
        go_wp2_with fail
        refine bodyPost_ret (v := .tuple #[.agg #[.int .i64 0, .slice none 0 0], .int .i64 9, .int .i64 (j : Int)]) (by simp [results, Tryd.results40, go_sem, e0, e1]) rfl ?_
        rw [unhide HR]
        refine ⟨((unhide HBE3).setCell hle _).setCell hle _, Or.inl ⟨by rw [unhide HE2, unhide HW]; exact (by decide : (9 : Int) ≠ 0), by rw [unhide HE2, unhide HW]⟩⟩

set_option maxHeartbeats 2000000 in
theorem look_any (s : ByteArray) (w : World) (hs : s.size ≤ maxLen) (ht : Tab w) :
    Calls Tryd.prog 20 #[.string s] w fun e w' => e = .returned (.tuple #[.int .i64 (Hx.lookF s).1, .int .i64 (Hx.lookF s).2]) ∧ Below w.heap.size w w' := by
  have HL := hide (looked_any s w hs ht)
  clear hs ht
  go_enter Tryd.func20, Tryd.ntmps20
  go_wp2_with fail
  refine (unhide HL).mono ?_
  rintro e w1 ⟨hbe, ⟨_, rfl⟩ | ⟨he, _, _, _, _, v, rfl, hown⟩⟩
  · have HBE := hide hbe
    clear hbe
    go_wp2_with fail
    go_returns
    exact ⟨rfl, (unhide HBE).alloc (unhide HBE).size _⟩
  · obtain ⟨ao, cap, rfl⟩ := own_form hown
    have HBE := hide hbe
    have HE := hide he
    clear hbe hown he
    go_wp2_with fail
    go_returns
    exact ⟨by rw [unhide HE]; rfl, (unhide HBE).alloc (unhide HBE).size _⟩

end Go.Proofs.YtppcnlkhdgmaiaaDoor
namespace Go.Proofs.YtppcnlkhdgmaiaaDoor
open Go.RowKit

abbrev planA (J K D : Nat) (v : Value) : Array Value := #[.int .i64 (J : Int), .int .i64 (K : Int), .int .i64 (D : Int), v]
/-- Is a text too long? -/
theorem checks_any {s : ByteArray} (w : World) (hs : s.size ≤ maxLen) (c : Int) (hc : Hx.checkF s = (c.toNat, 0)) (h0 : 0 ≤ c) (h : PlE w) :
    Calls Tryd.prog 14 #[.string s] w fun e w' => e = .returned (.tuple #[.int .i64 c, .int .i64 0]) ∧ Below w.heap.size w w' := by
  have := check_any s w hs h.1
  rw [hc] at this
  have e : ((c.toNat : Nat) : Int) = c := by omega
  simp only [e] at this
  exact this
theorem told_look {J K D : Nat} {ps : List (List Hx.Stp)} {u : List UInt8} {e : Int} {o : List Nat} {f : Nat → Int} (h : Hx.Told J K D ps u e o f) (w : World) (hE : PlE w) :
    Calls Tryd.prog 20 #[.string ⟨u.toArray⟩] w fun e' w' => e' = .returned (.tuple #[.int .i64 0, .int .i64 0]) ∧ Below w.heap.size w w' := by
  have := look_any ⟨u.toArray⟩ w (Nat.le_trans h.size (by unfold maxLen; omega)) hE.1
  rw [h.look] at this
  exact this
theorem told_whole {J K D : Nat} {ps : List (List Hx.Stp)} (hs : Hx.GoodS ps) {u : List UInt8} {e : Int} {o : List Nat} {f : Nat → Int} (h : Hx.Told J K D ps u e o f) (v ev : Value) (w : World)
    (ho : w.ownsRow 0 39 7 v (Hx.labs ps).length (ksCells (Hx.labs ps))) (he : w.ownsRow 0 55 9 ev ((Hx.ttab ps o f).map Hx.entOf).length (entsCells ((Hx.ttab ps o f).map Hx.entOf))) :
    Calls Tryd.prog 21 #[planV J K D v, ev] w fun e' w' => e' = .returned (.bool true) ∧ Below w.heap.size w w' :=
  whole_any J K D _ _ v ev w hs.ks (Hx.labs_some h.tm.good) (by have := hs.nine; omega) h.tm.right.ok (h.tm.whole hs) ho he
theorem told_robust {J K D : Nat} {ps : List (List Hx.Stp)} {u : List UInt8} {e : Int} {o : List Nat} {f : Nat → Int} (h : Hx.Told J K D ps u e o f) (ev : Value) (w : World)
    (he : w.ownsRow 0 55 9 ev ((Hx.ttab ps o f).map Hx.entOf).length (entsCells ((Hx.ttab ps o f).map Hx.entOf))) :
    Calls Tryd.prog 22 #[ev, .int .i64 (J : Int), .int .i64 (K : Int)] w fun e' w' => e' = .returned (.bool true) ∧ Below w.heap.size w w' :=
  robust_any J K _ ev w (by have := h.tm.good.j; omega) (by rw [Hx.ttab_len, h.tm.len]; exact Hx.labs_some h.tm.good) (by rw [Hx.ttab_len, h.tm.len]; have := h.tm.good.all; omega) h.tm.rob he
theorem name_is {pl no : Nat} (h : pl < 4) : ((⟨#[97, 98, 99, 100]⟩ : ByteArray).extract pl (pl + 1) ++ ⟨(Lib.itoa (no : Int)).toArray⟩ : ByteArray) = ⟨([UInt8.ofNat (97 + pl)] ++ Lib.itoa (no : Int)).toArray⟩ := by
  rw [letter4_ext _ h]
  apply ByteArray.ext
  simp

set_option maxRecDepth 100000 in
set_option maxHeartbeats 4000000 in
theorem kept_any (sJ sK sD bu : Int) (sv : Value) (qs : List (List Hx.Raw)) (w : World) (h1 : I64 sJ) (h2 : I64 sK) (h3 : I64 sD) (h4 : I64 bu) (hq : RowsR w sv qs) (hE : PlE w) :
    Calls Tryd.prog 3 #[shapeV sJ sK sD sv, .int .i64 bu] w fun e w' => e = .returned (.bool true) ∧ Below w.heap.size w w' := by
  obtain ⟨ao, cap, rfl⟩ : ∃ ao cap, sv = .slice ao qs.length cap := by obtain ⟨ao, cap, e, _⟩ := hq; exact ⟨ao, cap, e⟩
  have HB0 := hide (belA (.cells (shapeA sJ sK sD (.slice ao qs.length cap)) 24) (Below.refl w.heap.size w))
  have HS0 := hide (blk_new w (shapeA sJ sK sD (.slice ao qs.length cap)) 24)
  have HE0 := hide (lasts_ple.alloc hE (.cells (shapeA sJ sK sD (.slice ao qs.length cap)) 24))
  have HQ := hide hq
  have hgs := Hx.shapeP_good qs
  have lJ := Hx.pickN_lt sJ (n := 10) (by omega)
  have lK := Hx.pickN_lt sK (n := 3) (by omega)
  have lD := Hx.pickN_lt sD (n := 1000) (by omega)
  have HPO : Hid (∀ w', RowsR w' (.slice ao qs.length cap) qs → Calls Tryd.prog 12 #[shapeV sJ sK sD (.slice ao qs.length cap)] w' fun e w2 => ∃ v, e = .returned (planV (Hx.pickN sJ 10) (1 + Hx.pickN sK 3) (Hx.pickN sD 1000) v) ∧ w2.ownsRow 0 39 7 v (Hx.labs (Hx.shapeP qs)).length (ksCells (Hx.labs (Hx.shapeP qs))) ∧ Below w'.heap.size w' w2) := fun w' h => plan_of_any sJ sK sD _ qs w' h1 h2 h3 h
  generalize Hx.shapeP qs = ps at HPO hgs
  generalize Hx.pickN sJ 10 = J at HPO lJ
  obtain ⟨K, hK⟩ : ∃ K, K = 1 + Hx.pickN sK 3 := ⟨_, rfl⟩
  rw [← hK] at HPO
  generalize Hx.pickN sD 1000 = D at HPO lD
  have hK1 : 1 ≤ K := by omega
  have hK9 : K < 10 := by omega
  have hg : Hx.GoodP J K D ps := hgs.good lJ hK1 hK9 (by omega)
  have HGS := hide hgs
  have hnpos := Hx.labs_some hg
  have hn9 := hgs.nine
  obtain ⟨n, hn⟩ : ∃ n, n = (Hx.labs ps).length := ⟨_, rfl⟩
  obtain ⟨s, hs⟩ : ∃ s : ByteArray, s = ⟨(Hx.textL J K D (Hx.labs ps)).toArray⟩ := ⟨_, rfl⟩
  have hsl : s.size ≤ 1000 := by
    have := textL_len (J := J) (K := K) (D := D) (by omega) (by omega) (by omega) (Hx.labs ps) hgs.ks
    rw [hs]
    show (Hx.textL J K D (Hx.labs ps)).length ≤ 1000
    omega
  obtain ⟨ht1, ht2⟩ := Hx.text_is hgs lJ hK1 hK9 (by omega) hs
  have HTX : Hid (∀ v w', w'.ownsRow 0 39 7 v (Hx.labs ps).length (ksCells (Hx.labs ps)) → Calls Tryd.prog 13 #[planV J K D v] w' fun e w2 => e = .returned (.string s) ∧ Below w'.heap.size w' w2) := fun v w' h => by rw [hs]; exact textof_any J K D ps v w' lJ hK9 (by omega) hgs h
  have HTI : Hid (∀ v w', w'.ownsRow 0 39 7 v (Hx.labs ps).length (ksCells (Hx.labs ps)) → Calls Tryd.prog 17 #[planV J K D v] w' fun e w2 => e = .returned (.int .i64 (Hx.tightI J (Hx.labs ps))) ∧ Below w'.heap.size w' w2) := fun v w' h => tight_any J K D (Hx.labs ps) v w' (by omega) hgs.ks hnpos (by omega) (Hx.tight0 hgs) h
  have HCK1 : Hid (120 < s.size → ∀ w', PlE w' → Calls Tryd.prog 14 #[.string s] w' fun e w2 => e = .returned (.tuple #[.int .i64 1, .int .i64 0]) ∧ Below w'.heap.size w' w2) := fun h120 w' h => checks_any w' (by unfold maxLen; omega) 1 (by rw [ht1, if_pos h120]; rfl) (by omega) h
  have HCK0 : Hid (s.size ≤ 120 → ∀ w', PlE w' → Calls Tryd.prog 14 #[.string s] w' fun e w2 => e = .returned (.tuple #[.int .i64 0, .int .i64 0]) ∧ Below w'.heap.size w' w2) := fun h120 w' h => checks_any w' (by unfold maxLen; omega) 0 (by rw [ht1, if_neg (by omega)]; rfl) (by omega) h
  have la := Hx.pickN_lt bu (n := 301) (by omega)
  have HPA : Hid (∀ w', Calls Tryd.prog 15 #[.int .i64 bu, .int .i64 301] w' fun e w2 => e = .returned (.int .i64 (Hx.pickN bu 301 : Int)) ∧ w' = w2) := fun w' => (pick_any bu 301 w' h4.1 h4.2 (by omega) (by omega)).mono (fun e w2 h => ⟨h.1, h.2.symm⟩)
  generalize Hx.pickN bu 301 = a at HPA la
  have hkp := Hx.kept_is hgs hg (N := a) (by omega)
  obtain ⟨ua, xa, ea, hA⟩ : ∃ ua xa ea, Hx.planS J K D ps (a : Int) = (ua, xa, ea) := ⟨_, _, _, rfl⟩
  rw [hA] at hkp
  have HKP := hide hkp
  have HLA : Hid (s.size ≤ 120 → ∀ w', PlE w' → Calls Tryd.prog 16 #[.string s, .int .i64 (a : Int)] w' fun e w2 => e = .returned (.tuple #[.string ⟨ua.toArray⟩, .bool xa, .int .i64 ea]) ∧ Below w'.heap.size w' w2) := fun h120 w' h => plans_any J K D ps (ht2 h120) _ _ _ _ hA w' (by unfold maxLen; omega) h
  obtain ⟨ti, hti⟩ : ∃ ti, ti = Hx.tightI J (Hx.labs ps) := ⟨_, rfl⟩
  have HTC : Hid ((∃ i : Nat, i < n ∧ ti = (i : Int)) ∨ ti = -1) := by
    show _ ∨ _
    rw [hti, hn]
    rcases Hx.tightI_cases J (Hx.labs ps) with ⟨i, hi, _, ht⟩ | ⟨_, ht⟩
    · exact Or.inl ⟨i, hi, ht⟩
    · exact Or.inr ht
  rw [← hti] at HTI
  have HTIE := hide hti
  have HN := hide hn
  rw [← hn] at HPO HTX HTI hnpos hn9
  clear hkp hA ht1 ht2 hs hq hgs hg hK h1 h2 h3 h4 hE hti hn
  go_enter Tryd.func3, Tryd.ntmps3
  go_upto_region 1 with fail
  generalize w.alloc (.cells (shapeA sJ sK sD (.slice ao qs.length cap)) 24) = W1 at HB0 HS0 HE0 ⊢
  go_wp2_with fail
  refine (planned_ple W1 (unhide HE0)).mono ?_
  rintro e w1 ⟨rfl, hb1⟩
  have HE1 := hide (lasts_ple _ _ (unhide HE0) hb1)
  have HB1 := hide ((unhide HB0).trans (hb1.mono (unhide HB0).size))
  have HS1 := hide ((hb1.block _ (lt_of_block (unhide HS0))).trans (unhide HS0))
  clear hb1 HB0 HS0 HE0
  have c0 : w1.cell? ⟨w.heap.size, 0, none⟩ = some (.int .i64 sJ) := blk_cell (unhide HS1) 0
  have c1 : w1.cell? ⟨w.heap.size, 1, none⟩ = some (.int .i64 sK) := blk_cell (unhide HS1) 1
  have c2 : w1.cell? ⟨w.heap.size, 2, none⟩ = some (.int .i64 sD) := blk_cell (unhide HS1) 2
  have c3 : w1.cell? ⟨w.heap.size, 3, none⟩ = some (.slice ao qs.length cap) := blk_cell (unhide HS1) 3
  go_wp2_with fail
  refine (unhide HPO w1 ((unhide HQ).below (unhide HB1) (Nat.le_refl _))).mono ?_
  rintro e w2 ⟨v2, rfl, ho2, hb2⟩
  obtain ⟨gs, caps, rfl, _, hgsz⟩ := own_pos ho2 hnpos
  have HE2 := hide (lasts_ple.alloc (lasts_ple _ _ (unhide HE1) hb2) (.cells (planA J K D (.slice (some ⟨gs, 0, none⟩) n caps)) 28))
  have HB2 := hide (belA (.cells (planA J K D (.slice (some ⟨gs, 0, none⟩) n caps)) 28) ((unhide HB1).trans (hb2.mono (unhide HB1).size)))
  have HO2 := hide (own_below ho2 (belA (.cells (planA J K D (.slice (some ⟨gs, 0, none⟩) n caps)) 28) (Below.refl _ _)))
  have HP2 := hide (blk_new w2 (planA J K D (.slice (some ⟨gs, 0, none⟩) n caps)) 28)
  clear hb2 ho2 HE1 HB1 HPO HQ HS1 c0 c1 c2 c3 hgsz
  go_upto_region 5 with fail
  obtain ⟨pb, hpb⟩ : ∃ pb, pb = w2.heap.size := ⟨_, rfl⟩
  rw [← hpb] at HP2 ⊢
  generalize w2.alloc (.cells (planA J K D (.slice (some ⟨gs, 0, none⟩) n caps)) 28) = W2 at HE2 HB2 HO2 HP2 ⊢
  clear hpb
  have p0 : W2.cell? ⟨pb, 0, none⟩ = some (.int .i64 (J : Int)) := blk_cell (unhide HP2) 0
  have p1 : W2.cell? ⟨pb, 1, none⟩ = some (.int .i64 (K : Int)) := blk_cell (unhide HP2) 1
  have p2 : W2.cell? ⟨pb, 2, none⟩ = some (.int .i64 (D : Int)) := blk_cell (unhide HP2) 2
  have p3 : W2.cell? ⟨pb, 3, none⟩ = some (.slice (some ⟨gs, 0, none⟩) n caps) := blk_cell (unhide HP2) 3
  go_wp2_with fail
  refine (unhide HTX _ W2 (unhide HO2)).mono ?_
  rintro e w3 ⟨rfl, hb3⟩
  have HE3 := hide (lasts_ple _ _ (unhide HE2) hb3)
  have HB3 := hide ((unhide HB2).trans (hb3.mono (unhide HB2).size))
  have HO3 := hide (own_below (unhide HO2) hb3)
  have HP3 := hide ((hb3.block _ (lt_of_block (unhide HP2))).trans (unhide HP2))
  clear hb3 HE2 HB2 HTX HO2 HP2 p0 p1 p2 p3
  by_cases h120 : s.size ≤ 120
  · have hI : ¬ (120 : Int) < (s.size : Int) := by omega
    have CK := hide (unhide HCK0 h120)
    have CA := hide (unhide HLA h120)
    clear HLA HCK1 HCK0 hsl
    go_wp2_with fail
    refine (unhide CK _ (unhide HE3)).mono ?_
    rintro e w4 ⟨rfl, hb4⟩
    have HE4 := hide (lasts_ple _ _ (unhide HE3) hb4)
    have HB4 := hide ((unhide HB3).trans (hb4.mono (unhide HB3).size))
    have HO4 := hide (own_below (unhide HO3) hb4)
    have HP4 := hide ((hb4.block _ (lt_of_block (unhide HP3))).trans (unhide HP3))
    clear hb4 HE3 HB3 HO3 HP3 CK
    go_wp2_with fail
    refine (unhide HPA _).mono ?_
    rintro e w5 ⟨rfl, rfl⟩
    go_wp2_with fail
    refine (unhide CA _ (unhide HE4)).mono ?_
    rintro e w5 ⟨rfl, hb5⟩
    have HE5 := hide (lasts_ple _ _ (unhide HE4) hb5)
    have HB5 := hide ((unhide HB4).trans (hb5.mono (unhide HB4).size))
    have HO5 := hide (own_below (unhide HO4) hb5)
    have HP5 := hide ((hb5.block _ (lt_of_block (unhide HP4))).trans (unhide HP4))
    clear hb5 HE4 HB4 HO4 HP4 CA HPA
    have p0 : w5.cell? ⟨pb, 0, none⟩ = some (.int .i64 (J : Int)) := blk_cell (unhide HP5) 0
    have p1 : w5.cell? ⟨pb, 1, none⟩ = some (.int .i64 (K : Int)) := blk_cell (unhide HP5) 1
    have p2 : w5.cell? ⟨pb, 2, none⟩ = some (.int .i64 (D : Int)) := blk_cell (unhide HP5) 2
    have p3 : w5.cell? ⟨pb, 3, none⟩ = some (.slice (some ⟨gs, 0, none⟩) n caps) := blk_cell (unhide HP5) 3
    go_wp2_with fail
    refine (unhide HTI _ w5 (unhide HO5)).mono ?_
    rintro e w6 ⟨rfl, hb6⟩
    have HE6 := hide (lasts_ple _ _ (unhide HE5) hb6)
    have HB6 := hide ((unhide HB5).trans (hb6.mono (unhide HB5).size))
    have HO6 := hide (own_below (unhide HO5) hb6)
    have HP6 := hide ((hb6.block _ (lt_of_block (unhide HP5))).trans (unhide HP5))
    clear hb6 HE5 HB5 HO5 HP5 HTI p0 p1 p2 p3
    have p3 : w6.cell? ⟨pb, 3, none⟩ = some (.slice (some ⟨gs, 0, none⟩) n caps) := blk_cell (unhide HP6) 3
    rcases unhide HTC with ⟨i, hin, rfl⟩ | rfl
    · obtain ⟨y, hy, hy4, hy10, hua, hea⟩ := (unhide HKP).tight i (unhide HTIE).symm
      have hua : ua = _ := hua
      have hea : ea = 6 := hea
      subst hea
      have HUA := hide hua
      have cx : ∀ t, t < 7 → w6.cell? ⟨gs, i * 7 + t, none⟩ = (kstCells y)[t]? := fun t h => own_at kstCells 7 (fun _ => rfl) (unhide HO6) (unhide HN) i y hy t h
      have x0 : w6.cell? ⟨gs, i * 7, none⟩ = some (.int .i64 (y.pl : Int)) := cx 0 (by omega)
      have x1 : w6.cell? ⟨gs, i * 7 + 1, none⟩ = some (.int .i64 (y.no : Int)) := cx 1 (by omega)
      have hi0 : (0 : Int) ≤ (i : Int) := by omega
      have hid : decide ((0 : Int) ≤ (i : Int)) = true := decide_eq_true hi0
      have hinI : (i : Int) < (n : Int) := by omega
      have plI : (y.pl : Int) < 4 := by omega
      have pl0 : (0 : Int) ≤ (y.pl : Int) := by omega
      have no0 : (0 : Int) ≤ (y.no : Int) := by omega
      have no1 : (y.no : Int) ≤ 1000000 := by omega
      have HNM := hide (name_is (pl := y.pl) (no := y.no) hy4)
      have l1 := Hx.itoa_seven (n := y.no) (by omega)
      have hex : ((⟨#[97, 98, 99, 100]⟩ : ByteArray).extract y.pl (y.pl + 1)).size = 1 := by rw [letter4_ext _ hy4]; rfl
      have m1 : ¬ 9223372036854775807 < ((⟨#[97, 98, 99, 100]⟩ : ByteArray).extract y.pl (y.pl + 1)).size + (Lib.itoa (y.no : Int)).length := by rw [hex]; omega
      have m2 : ¬ 9223372036854775807 < min (y.pl + 1) 4 - y.pl + (Lib.itoa (y.no : Int)).length := by omega
      clear cx hy hua hy10 hex l1
      go_upto_region 15 with fail
      go_quiet ((go_at_call 18; refine Calls.quiet_of_same (kdec_gen _ _ (by assumption) (by assumption))))
      go_wp2_with fail
      go_returns
      refine ⟨?_, by first | exact below_drewN (unhide HB6) _ | exact unhide HB6⟩
      have e1 := unhide HUA
      rw [unhide HNM]
      simp at e1 ⊢
    · have hid : decide ((0 : Int) ≤ -1) = false := by decide
      rcases (unhide HKP).loose (unhide HTIE).symm with ⟨hea, e0, o, f, htold, hle⟩ | ⟨hua, hea⟩ | ⟨hua, hea, ha0⟩
      · have hea : ea = 0 := hea
        subst hea
        have TD := hide htold
        have hleD : decide (e0 ≤ (D : Int)) = true := decide_eq_true hle
        clear htold hle
        go_wp2_with fail
        refine (told_any (unhide TD) _).mono ?_
        rintro e w7 ⟨hb7, v7, rfl, ho7⟩
        have HE7 := hide (lasts_ple _ _ (unhide HE6) hb7)
        have HB7 := hide ((unhide HB6).trans (hb7.mono (unhide HB6).size))
        have HO7 := hide (own_below (unhide HO6) hb7)
        have HP7 := hide ((hb7.block _ (lt_of_block (unhide HP6))).trans (unhide HP6))
        have HT7 := hide ho7
        clear hb7 ho7 HE6 HB6 HO6 HP6 p3
        go_wp2_with fail
        refine (told_look (unhide TD) _ (unhide HE7)).mono ?_
        rintro e w8 ⟨rfl, hb8⟩
        have HB8 := hide ((unhide HB7).trans (hb8.mono (unhide HB7).size))
        have HO8 := hide (own_below (unhide HO7) hb8)
        have HT8 := hide (own_below (unhide HT7) hb8)
        have HP8 := hide ((hb8.block _ (lt_of_block (unhide HP7))).trans (unhide HP7))
        clear hb8 HE7 HB7 HO7 HT7 HP7
        have SF : Hid (∀ w', Below w8.heap.size w8 w' → w'.cell? ⟨pb, 0, none⟩ = some (.int .i64 (J : Int)) ∧ w'.cell? ⟨pb, 1, none⟩ = some (.int .i64 (K : Int)) ∧ w'.cell? ⟨pb, 2, none⟩ = some (.int .i64 (D : Int)) ∧ w'.cell? ⟨pb, 3, none⟩ = some (.slice (some ⟨gs, 0, none⟩) n caps)) := fun w' hb => by
          have h := (hb.block _ (lt_of_block (unhide HP8))).trans (unhide HP8)
          exact ⟨blk_cell h 0, blk_cell h 1, blk_cell h 2, blk_cell h 3⟩
        have CW : Hid (∀ w', Below w8.heap.size w8 w' → Calls Tryd.prog 21 #[planV J K D (.slice (some ⟨gs, 0, none⟩) n caps), v7] w' fun e' w2 => e' = .returned (.bool true) ∧ Below w'.heap.size w' w2) := fun w' hb => by
          have ho := own_below (unhide HO8) hb
          rw [unhide HN] at ho ⊢
          exact told_whole (unhide HGS) (unhide TD) _ _ w' ho (own_below (unhide HT8) hb)
        have CR : Hid (∀ w', Below w8.heap.size w8 w' → Calls Tryd.prog 22 #[v7, .int .i64 (J : Int), .int .i64 (K : Int)] w' fun e' w2 => e' = .returned (.bool true) ∧ Below w'.heap.size w' w2) := fun w' hb => told_robust (unhide TD) _ w' (own_below (unhide HT8) hb)
        have CO : Hid (∀ w', Below w8.heap.size w8 w' → Calls Tryd.prog 23 #[v7, .int .i64 (J : Int)] w' fun e' w2 => e' = .returned (.int .i64 e0) ∧ Below w'.heap.size w' w2) := fun w' hb => (told_over (unhide TD) _ w' (own_below (unhide HT8) hb)).mono (fun e w2 h => ⟨h.1, h.2.below (Below.refl _ _)⟩)
        have HBR := hide (Below.refl w8.heap.size w8)
        clear HO8 HT8 HP8 TD
        go_upto_region 20 with fail
        go_region_held3 (fun w' => w'.cell? ⟨pb, 0, none⟩ = some (.int .i64 (J : Int)) ∧ w'.cell? ⟨pb, 1, none⟩ = some (.int .i64 (K : Int)) ∧ w'.cell? ⟨pb, 2, none⟩ = some (.int .i64 (D : Int)) ∧ w'.cell? ⟨pb, 3, none⟩ = some (.slice (some ⟨gs, 0, none⟩) n caps)) (exact unhide SF _ (by (repeat with_reducible (first | exact unhide HBR | apply belD | apply belN | refine belB (by assumption) ?_)))) (first | (go_at_call 21; refine (unhide CW _ ?_).mono ?_; (repeat with_reducible (first | exact unhide HBR | apply belD | apply belN | refine belB (by assumption) ?_)); rintro r w9 ⟨rfl, hb9⟩) | (go_at_call 22; refine (unhide CR _ ?_).mono ?_; (repeat with_reducible (first | exact unhide HBR | apply belD | apply belN | refine belB (by assumption) ?_)); rintro r w10 ⟨rfl, hb10⟩) | (go_at_call 23; refine (unhide CO _ ?_).mono ?_; (repeat with_reducible (first | exact unhide HBR | apply belD | apply belN | refine belB (by assumption) ?_)); rintro r w11 ⟨rfl, hb11⟩))
        all_goals
          go_wp2_with fail
          go_returns
          refine ⟨?_, ?_⟩
          · first | rfl | simp [hleD]
          · refine (unhide HB8).trans (Below.mono ?_ (unhide HB8).size)
            repeat with_reducible (first | exact unhide HBR | apply belD | apply belN | refine belB (by assumption) ?_)
      · have hea : ea = 8 := hea
        have hua : ua = [] := hua
        subst hea hua
        go_wp2_with fail
        go_returns
        exact ⟨rfl, unhide HB6⟩
      · have hea : ea = 7 := hea
        have hua : ua = [] := hua
        subst hea hua
        have haI : (0 : Int) < (a : Int) := by omega
        go_wp2_with fail
        go_returns
        exact ⟨rfl, unhide HB6⟩
  · have hI : (120 : Int) < (s.size : Int) := by omega
    have CK := hide (unhide HCK1 (by omega))
    clear HLA HCK1 HCK0
    go_wp2_with fail
    refine (unhide CK _ (unhide HE3)).mono ?_
    rintro e w4 ⟨rfl, hb4⟩
    have HB4 := hide ((unhide HB3).trans (hb4.mono (unhide HB3).size))
    clear hb4
    go_wp2_with fail
    go_returns
    exact ⟨rfl, unhide HB4⟩
end Go.Proofs.YtppcnlkhdgmaiaaDoor
