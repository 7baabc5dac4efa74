/- What First answers. -/
import Derived.Test.YtppcnlkhdgmaiaaDoorCSm
import Derived.Test.YtppcnlkhdgmaiaaDoorCTf
import Derived.Deep.DeepCutAuto
namespace Go.Proofs.YtppcnlkhdgmaiaaDoor
open Go.RowKit

abbrev planG (J K D : Nat) (v : Value) : Array Value := #[.int .i64 (J : Int), .int .i64 (K : Int), .int .i64 (D : Int), v]
abbrev stpA (y : Hx.Lst) : Array Value := #[.int .i64 (y.pl : Int), .int .i64 (y.no : Int), .int .i64 (y.x.lo : Int), .int .i64 (y.x.hi : Int), .bool y.x.rest, .int .i64 (y.x.mn : Int), .int .i64 (y.x.mx : Int)]
/-- What lies in memory while First writes a step. -/
structure InF (B : World) (xb : Nat) (y : Hx.Lst) (w' : World) : Prop where
  xc : w'.heap[xb]? = some (.cells (stpA y) 39 (0, 0))
  be : Below B.heap.size B w'
theorem InF.drewN {B xb y w'} (h : InF B xb y w') (n : Nat) : InF B xb y (w'.drewN n) := ⟨h.xc, below_drewN h.be n⟩
namespace Hx
def stp1 (J : Nat) (L : List Lst) (k : Nat) (y : Lst) : List UInt8 := [59] ++ nmB y.pl y.no ++ [64] ++ Lib.itoa (timF J L k : Int) ++ [43] ++ bndB y.x.lo y.x.hi
def stp2 (y : Lst) : List UInt8 := if y.x.rest then [60, 48, 58] ++ bndB y.x.mn y.x.mx else []
def stp3 (L : List Lst) (k : Nat) : List UInt8 := if restAfter L k then [62, 48] else []
theorem stepB_at {J : Nat} {L : List Lst} {k : Nat} {y : Lst} (h : L[k]? = some y) : stepB J L k = stp1 J L k y ++ stp2 y ++ stp3 L k := by
  unfold stepB; rw [h]; rfl
theorem firstB_snoc {J : Nat} {L : List Lst} {k : Nat} {y : Lst} (h : L[k]? = some y) : firstB J L (k + 1) = firstB J L k ++ stp1 J L k y ++ stp2 y ++ stp3 L k := by
  unfold firstB
  rw [range_flat, stepB_at h]
  simp
theorem preF_le {J : Nat} {L : List Lst} (hJ : J < 10) (hL : ∀ y ∈ L, KS y) : ∀ k, preF J L k ≤ 3000 * k
  | 0 => Nat.le_refl _
  | k + 1 => by
    have ih := preF_le hJ hL k
    rw [preF]
    cases h : L[k]? with
    | none => show preF J L k ≤ _; omega
    | some y =>
      have hk := hL y (List.mem_of_getElem? h)
      have a := hk.hi
      have b := hk.mn
      have c : rstM y ≤ y.x.mn := by unfold rstM; split <;> omega
      show preF J L k + rstM y + J + y.x.hi ≤ _
      omega
theorem bnd_len {a b : Nat} (ha : a < 1000) (hb : b < 1000) : (bndB a b).length ≤ 15 := by
  have h1 := itoa_seven (n := a) (by omega)
  have h2 := itoa_seven (n := b) (by omega)
  simp [bndB]
  omega
theorem stp1_len {J : Nat} {L : List Lst} {k : Nat} {y : Lst} (h : KS y) (ht : timF J L k ≤ 1000000) : (stp1 J L k y).length ≤ 30 := by
  have a := bnd_len h.lo h.hi
  have b := itoa_seven ht
  simp [stp1, nmB]
  omega
theorem stp2_len {y : Lst} (h : KS y) : (stp2 y).length ≤ 18 := by
  have a := bnd_len h.mn h.mx
  unfold stp2
  split
  · simp; omega
  · simp
theorem stp3_len (L : List Lst) (k : Nat) : (stp3 L k).length ≤ 2 := by
  unfold stp3
  split <;> simp
theorem firstB_len {J : Nat} {L : List Lst} (hJ : J < 10) (hL : ∀ y ∈ L, KS y) (hl : L.length ≤ 9) : ∀ k, k ≤ L.length → (firstB J L k).length ≤ 10 + 50 * k
  | 0, _ => by
    have := itoa_seven (n := J) (by omega)
    simp [firstB]
    omega
  | k + 1, hk => by
    have hy : L[k]? = some L[k] := List.getElem?_eq_getElem (by omega)
    have hks := hL _ (List.mem_of_getElem? hy)
    have ih := firstB_len hJ hL hl k (by omega)
    have hp := preF_le hJ hL k
    have ht : timF J L k ≤ 1000000 := by
      have e : rstM L[k] ≤ (L[k]).x.mn := by unfold rstM; split <;> omega
      have b := hks.mn
      rw [timF_at hy]
      omega
    have a := stp1_len (L := L) (k := k) hks ht
    have b := stp2_len hks
    have c := stp3_len L k
    rw [firstB_snoc hy, List.length_append, List.length_append, List.length_append]
    omega
end Hx
theorem stp1_is {J : Nat} {L : List Hx.Lst} {k : Nat} {y : Hx.Lst} (h : KS y) (l : List UInt8) :
    ((⟨l.toArray⟩ : ByteArray) ++ ⟨#[59]⟩ ++ (⟨#[97, 98, 99, 100]⟩ : ByteArray).extract y.pl (y.pl + 1) ++ ⟨(Lib.itoa (y.no : Int)).toArray⟩ ++ ⟨#[64]⟩ ++ ⟨(Lib.itoa (Hx.timF J L k : Int)).toArray⟩ ++ ⟨#[43]⟩ ++ ⟨(Lib.itoa (y.x.lo : Int)).toArray⟩ ++ ⟨#[45]⟩ ++ ⟨(Lib.itoa (y.x.hi : Int)).toArray⟩ : ByteArray) = ⟨(l ++ Hx.stp1 J L k y).toArray⟩ := by
  have e : Lib.itoa (y.no : Int) = [UInt8.ofNat (48 + y.no)] := by rw [← dec_is, Hx.decF_one h.no]
  rw [letter4_ext _ h.pl, e]
  apply ByteArray.ext
  simp [Hx.stp1, Hx.nmB, Hx.bndB]
theorem stp2_is {y : Hx.Lst} (h : y.x.rest = true) (l : List UInt8) :
    ((⟨l.toArray⟩ : ByteArray) ++ ⟨#[60, 48, 58]⟩ ++ ⟨(Lib.itoa (y.x.mn : Int)).toArray⟩ ++ ⟨#[45]⟩ ++ ⟨(Lib.itoa (y.x.mx : Int)).toArray⟩ : ByteArray) = ⟨(l ++ Hx.stp2 y).toArray⟩ := by
  unfold Hx.stp2
  rw [h]
  apply ByteArray.ext
  simp [Hx.bndB]
theorem stp3_is {L : List Hx.Lst} {k : Nat} (h : Hx.restAfter L k = true) (l : List UInt8) :
    ((⟨l.toArray⟩ : ByteArray) ++ ⟨#[62, 48]⟩ : ByteArray) = ⟨(l ++ Hx.stp3 L k).toArray⟩ := by
  unfold Hx.stp3
  rw [h]
  apply ByteArray.ext
  simp

set_option maxRecDepth 100000 in
set_option maxHeartbeats 4000000 in
theorem first1_any (sJ sK sD : Int) (sv : Value) (qs : List (List Hx.Raw)) (w : World) (h1 : I64 sJ) (h2 : I64 sK) (h3 : I64 sD) (hq : RowsR w sv qs) (hE : PlE w) :
    Calls Tryd.prog 4 #[shapeV sJ sK sD sv] w fun e w' => e = .returned (.bool true) ∧ Below w.heap.size w w' := by
  obtain ⟨ao, cap, rfl⟩ : ∃ ao cap, sv = .slice ao qs.length cap := by obtain ⟨ao, cap, e, _⟩ := hq; exact ⟨ao, cap, e⟩
  have HB0 := hide (belA (.cells (shapeA sJ sK sD (.slice ao qs.length cap)) 24) (Below.refl w.heap.size w))
  have HS0 := hide (blk_new w (shapeA sJ sK sD (.slice ao qs.length cap)) 24)
  have HE0 := hide (lasts_ple.alloc hE (.cells (shapeA sJ sK sD (.slice ao qs.length cap)) 24))
  have HQ := hide hq
  have hgs := Hx.shapeP_good qs
  have lJ := Hx.pickN_lt sJ (n := 10) (by omega)
  have lK := Hx.pickN_lt sK (n := 3) (by omega)
  have lD := Hx.pickN_lt sD (n := 1000) (by omega)
  have HPO : Hid (∀ w', RowsR w' (.slice ao qs.length cap) qs → Calls Tryd.prog 12 #[shapeV sJ sK sD (.slice ao qs.length cap)] w' fun e w2 => ∃ v, e = .returned (planV (Hx.pickN sJ 10) (1 + Hx.pickN sK 3) (Hx.pickN sD 1000) v) ∧ w2.ownsRow 0 39 7 v (Hx.labs (Hx.shapeP qs)).length (ksCells (Hx.labs (Hx.shapeP qs))) ∧ Below w'.heap.size w' w2) := fun w' h => plan_of_any sJ sK sD _ qs w' h1 h2 h3 h
  generalize Hx.shapeP qs = ps at HPO hgs
  generalize Hx.pickN sJ 10 = J at HPO lJ
  obtain ⟨K, hK⟩ : ∃ K, K = 1 + Hx.pickN sK 3 := ⟨_, rfl⟩
  rw [← hK] at HPO
  generalize Hx.pickN sD 1000 = D at HPO lD
  have hK1 : 1 ≤ K := by omega
  have hK9 : K < 10 := by omega
  have hg : Hx.GoodP J K D ps := hgs.good lJ hK1 hK9 (by omega)
  have hnpos := Hx.labs_some hg
  have hn9 := hgs.nine
  have HFIN := hide hg.fine
  have hpos := hg.pos
  obtain ⟨n, hn⟩ : ∃ n, n = (Hx.labs ps).length := ⟨_, rfl⟩
  obtain ⟨s, hs⟩ : ∃ s : ByteArray, s = ⟨(Hx.textL J K D (Hx.labs ps)).toArray⟩ := ⟨_, rfl⟩
  obtain ⟨_, ht2⟩ := Hx.text_is hgs lJ hK1 hK9 (by omega) hs
  have HTX : Hid (∀ v w', w'.ownsRow 0 39 7 v (Hx.labs ps).length (ksCells (Hx.labs ps)) → Calls Tryd.prog 13 #[planV J K D v] w' fun e w2 => e = .returned (.string s) ∧ Below w'.heap.size w' w2) := fun v w' h => by rw [hs]; exact textof_any J K D ps v w' lJ hK9 (by omega) hgs h
  have HTI : Hid (∀ v w', w'.ownsRow 0 39 7 v (Hx.labs ps).length (ksCells (Hx.labs ps)) → Calls Tryd.prog 17 #[planV J K D v] w' fun e w2 => e = .returned (.int .i64 (Hx.tightI J (Hx.labs ps))) ∧ Below w'.heap.size w' w2) := fun v w' h => tight_any J K D (Hx.labs ps) v w' (by omega) hgs.ks hnpos (by omega) (Hx.tight0 hgs) h
  have HFI : Hid (Hx.tightI J (Hx.labs ps) = -1 → Hx.FirstP J D ps (Hx.planS J K D ps 1)) := fun h => Hx.first_is hg hK1 h
  obtain ⟨ua, xa, ea, hA⟩ : ∃ ua xa ea, Hx.planS J K D ps 1 = (ua, xa, ea) := ⟨_, _, _, rfl⟩
  rw [hA] at HFI
  have HLA : Hid (s.size ≤ 120 → ∀ w', PlE w' → Calls Tryd.prog 16 #[.string s, .int .i64 1] w' fun e w2 => e = .returned (.tuple #[.string ⟨ua.toArray⟩, .bool xa, .int .i64 ea]) ∧ Below w'.heap.size w' w2) := fun h120 w' h => plans_any J K D ps (ht2 h120) _ _ _ _ hA w' (by unfold maxLen; omega) h
  obtain ⟨ti, hti⟩ : ∃ ti, ti = Hx.tightI J (Hx.labs ps) := ⟨_, rfl⟩
  have HTC : Hid ((∃ i : Nat, ti = (i : Int)) ∨ ti = -1) := by
    show _ ∨ _
    rw [hti]
    rcases Hx.tightI_cases J (Hx.labs ps) with ⟨i, hi, _, ht⟩ | ⟨_, ht⟩
    · exact Or.inl ⟨i, ht⟩
    · exact Or.inr ht
  rw [← hti] at HTI HFI
  have HKS := hide hgs.ks
  obtain ⟨L, hL⟩ : ∃ L, L = Hx.labs ps := ⟨_, rfl⟩
  have HFL : Hid (∀ k, k ≤ L.length → (Hx.firstB J L k).length ≤ 10 + 50 * k) := Hx.firstB_len lJ (by rw [hL]; exact hgs.ks) (by rw [hL]; exact hn9)
  have HPL : Hid (∀ k, Hx.preF J L k ≤ 3000 * k) := Hx.preF_le lJ (by rw [hL]; exact hgs.ks)
  have HLP : Hid (∀ y, L[L.length - 1]? = some y → ((y.pl : Int) = 0 ↔ ps.length = 1)) := fun y hy => Hx.labs_lastpl hg.fine hpos (by rw [← hL]; exact hy)
  rw [← hL] at HPO HTX HTI hnpos hn9 hn HKS
  have HF2 : Hid (ti = -1 → (Hx.preF J L L.length ≤ D → (ua, xa, ea) = (Hx.firstB J L L.length, decide (ps.length = 1), 0)) ∧ (¬ Hx.preF J L L.length ≤ D → ps.length = 1 → ua = [] ∧ ea = 7) ∧ (¬ Hx.preF J L L.length ≤ D → ps.length ≠ 1 → ua = [] ∧ ea = 8)) := fun h => by
    have hf := unhide HFI h
    rw [hL]
    exact ⟨hf.ok, hf.one, hf.more⟩
  have HN := hide hn
  rw [← hn] at HPO HTX HTI hnpos hn9
  clear hA ht2 hs hq hgs hg hK h1 h2 h3 hE hti hn HFI hL
  go_enter Tryd.func4, Tryd.ntmps4
  go_upto_region 1 with fail
  generalize w.alloc (.cells (shapeA sJ sK sD (.slice ao qs.length cap)) 24) = w1 at HB0 HS0 HE0 ⊢
  have c0 : w1.cell? ⟨w.heap.size, 0, none⟩ = some (.int .i64 sJ) := blk_cell (unhide HS0) 0
  have c1 : w1.cell? ⟨w.heap.size, 1, none⟩ = some (.int .i64 sK) := blk_cell (unhide HS0) 1
  have c2 : w1.cell? ⟨w.heap.size, 2, none⟩ = some (.int .i64 sD) := blk_cell (unhide HS0) 2
  have c3 : w1.cell? ⟨w.heap.size, 3, none⟩ = some (.slice ao qs.length cap) := blk_cell (unhide HS0) 3
  go_wp2_with fail
  refine (unhide HPO w1 ((unhide HQ).below (unhide HB0) (Nat.le_refl _))).mono ?_
  rintro e w2 ⟨v2, rfl, ho2, hb2⟩
  obtain ⟨gs, caps, rfl, _, hgsz⟩ := own_pos ho2 hnpos
  have HE2 := hide (lasts_ple.alloc (lasts_ple _ _ (unhide HE0) hb2) (.cells (planG J K D (.slice (some ⟨gs, 0, none⟩) n caps)) 28))
  have HB2 := hide (belA (.cells (planG J K D (.slice (some ⟨gs, 0, none⟩) n caps)) 28) ((unhide HB0).trans (hb2.mono (unhide HB0).size)))
  have HO2 := hide (own_below ho2 (belA (.cells (planG J K D (.slice (some ⟨gs, 0, none⟩) n caps)) 28) (Below.refl _ _)))
  have HP2 := hide (blk_new w2 (planG J K D (.slice (some ⟨gs, 0, none⟩) n caps)) 28)
  clear hb2 ho2 HE0 HB0 HPO HQ HS0 c0 c1 c2 c3 hgsz
  go_upto_region 2 with fail
  obtain ⟨pb, hpb⟩ : ∃ pb, pb = w2.heap.size := ⟨_, rfl⟩
  rw [← hpb] at HP2 ⊢
  generalize w2.alloc (.cells (planG J K D (.slice (some ⟨gs, 0, none⟩) n caps)) 28) = W2 at HE2 HB2 HO2 HP2 ⊢
  clear hpb
  have p0 : W2.cell? ⟨pb, 0, none⟩ = some (.int .i64 (J : Int)) := blk_cell (unhide HP2) 0
  have p1 : W2.cell? ⟨pb, 1, none⟩ = some (.int .i64 (K : Int)) := blk_cell (unhide HP2) 1
  have p2 : W2.cell? ⟨pb, 2, none⟩ = some (.int .i64 (D : Int)) := blk_cell (unhide HP2) 2
  have p3 : W2.cell? ⟨pb, 3, none⟩ = some (.slice (some ⟨gs, 0, none⟩) n caps) := blk_cell (unhide HP2) 3
  go_wp2_with fail
  refine (unhide HTX _ W2 (unhide HO2)).mono ?_
  rintro e w3 ⟨rfl, hb3⟩
  have HE3 := hide (lasts_ple _ _ (unhide HE2) hb3)
  have HB3 := hide ((unhide HB2).trans (hb3.mono (unhide HB2).size))
  have HO3 := hide (own_below (unhide HO2) hb3)
  have HP3 := hide ((hb3.block _ (lt_of_block (unhide HP2))).trans (unhide HP2))
  clear hb3 HE2 HB2 HTX HO2 HP2 p0 p1 p2 p3
  have p0 : w3.cell? ⟨pb, 0, none⟩ = some (.int .i64 (J : Int)) := blk_cell (unhide HP3) 0
  have p1 : w3.cell? ⟨pb, 1, none⟩ = some (.int .i64 (K : Int)) := blk_cell (unhide HP3) 1
  have p2 : w3.cell? ⟨pb, 2, none⟩ = some (.int .i64 (D : Int)) := blk_cell (unhide HP3) 2
  have p3 : w3.cell? ⟨pb, 3, none⟩ = some (.slice (some ⟨gs, 0, none⟩) n caps) := blk_cell (unhide HP3) 3
  go_wp2_with fail
  refine (unhide HTI _ w3 (unhide HO3)).mono ?_
  rintro e w4 ⟨rfl, hb4⟩
  have HE4 := hide (lasts_ple _ _ (unhide HE3) hb4)
  have HB4 := hide ((unhide HB3).trans (hb4.mono (unhide HB3).size))
  have HO4 := hide (own_below (unhide HO3) hb4)
  have HP4 := hide ((hb4.block _ (lt_of_block (unhide HP3))).trans (unhide HP3))
  clear hb4 HE3 HB3 HTI HO3 HP3 p0 p1 p2 p3
  by_cases hbad : 120 < s.size ∨ ∃ i : Nat, ti = (i : Int)
  · rcases Nat.lt_or_ge 120 s.size with h | h
    · have hI : (120 : Int) < (s.size : Int) := by omega
      clear hbad
      go_wp2_with fail
      refine (planned_ple _ (unhide HE4)).mono ?_
      rintro e w5 ⟨rfl, hb5⟩
      have HB5 := hide ((unhide HB4).trans (hb5.mono (unhide HB4).size))
      clear hb5
      go_wp2_with fail
      go_returns
      exact ⟨rfl, unhide HB5⟩
    · obtain ⟨i, rfl⟩ : ∃ i : Nat, ti = (i : Int) := hbad.resolve_left (by omega)
      have hi0 : (0 : Int) ≤ (i : Int) := by omega
      have hid : decide ((0 : Int) ≤ (i : Int)) = true := decide_eq_true hi0
      have hI : ¬ (120 : Int) < (s.size : Int) := by omega
      clear hbad
      go_wp2_with fail
      refine (planned_ple _ (unhide HE4)).mono ?_
      rintro e w5 ⟨rfl, hb5⟩
      have HB5 := hide ((unhide HB4).trans (hb5.mono (unhide HB4).size))
      clear hb5
      go_wp2_with fail
      go_returns
      exact ⟨rfl, unhide HB5⟩
  · have h120 : s.size ≤ 120 := Nat.le_of_not_lt fun h => hbad (Or.inl h)
    have hti : ti = -1 := by
      rcases unhide HTC with h | h
      · exact absurd (Or.inr h) hbad
      · exact h
    have HFP := hide (unhide HF2 hti)
    subst hti
    have hI : ¬ (120 : Int) < (s.size : Int) := by omega
    have CA := hide (unhide HLA h120)
    clear hbad HLA HF2 HTC h120
    go_wp2_with fail
    refine (unhide CA _ (unhide HE4)).mono ?_
    rintro e w5 ⟨rfl, hb5⟩
    have HB5 := hide ((unhide HB4).trans (hb5.mono (unhide HB4).size))
    have HO5 := hide (own_below (unhide HO4) hb5)
    have HP5 := hide ((hb5.block _ (lt_of_block (unhide HP4))).trans (unhide HP4))
    clear hb5 HE4 HB4 HO4 HP4 CA
    have p0 : w5.cell? ⟨pb, 0, none⟩ = some (.int .i64 (J : Int)) := blk_cell (unhide HP5) 0
    have n1 : ¬ 9223372036854775807 < 1 + (Lib.itoa (J : Int)).length := by have := Hx.itoa_seven (n := J) (by omega); omega
    go_wp2_with fail
    refine ((kdec_gen (J : Int) _ (by omega) (by omega)).mono (fun e w2 h => (⟨h.1, h.2.symm⟩ : _ ∧ w5 = w2))).mono ?_
    rintro e w6 ⟨rfl, rfl⟩
    go_wp2_with fail
    clear p0 n1
    have HPC : Hid (∀ w', Below w5.heap.size w5 w' → w'.cell? ⟨pb, 0, none⟩ = some (.int .i64 (J : Int)) ∧ w'.cell? ⟨pb, 2, none⟩ = some (.int .i64 (D : Int)) ∧ w'.cell? ⟨pb, 3, none⟩ = some (.slice (some ⟨gs, 0, none⟩) n caps)) := fun w' hb => by
      have h := (hb.block _ (lt_of_block (unhide HP5))).trans (unhide HP5)
      exact ⟨blk_cell h 0, blk_cell h 2, blk_cell h 3⟩
    have HCE : Hid (∀ (j : Nat) (y : Hx.Lst), L[j]? = some y → ∀ w', Below w5.heap.size w5 w' → ∀ t, t < 7 → w'.cell? ⟨gs, j * 7 + t, none⟩ = (kstCells y)[t]?) := fun j y hy w' hb t ht =>
      own_at kstCells 7 (fun _ => rfl) (own_below (unhide HO5) hb) (unhide HN) j y hy t ht
    go_loopg [10, 11, 12] n (fun gk ws aa kk wr => ∃ k : Nat, k ≤ n ∧ gk = n - k ∧ kk = .int .i64 (k : Int) ∧ ws = .string ⟨(Hx.firstB J L k).toArray⟩ ∧ aa = .int .i64 (Hx.preF J L k : Int) ∧ Below w5.heap.size w5 wr)
    case atStart => exact ⟨0, Nat.zero_le _, rfl, rfl, by congr 1; apply ByteArray.ext; simp [Hx.firstB], rfl, Below.refl _ _⟩
    case round =>
      obtain ⟨k, hk, rfl, rfl, rfl, rfl, hbe⟩ := hrel
      have HBE := hide hbe
      obtain ⟨p0, p2, p3⟩ := unhide HPC wr hbe
      clear hbe
      by_cases hlt : k < n
      · have hltI : (k : Int) < (n : Int) := by omega
        obtain ⟨y, hy⟩ : ∃ y, L[k]? = some y := ⟨L[k]'(by rw [← unhide HN]; exact hlt), List.getElem?_eq_getElem _⟩
        have HY := hide hy
        have hks := unhide HKS y (List.mem_of_getElem? hy)
        have HK1 := hide hks
        have cx := unhide HCE k y hy wr (unhide HBE)
        have x0 : wr.cell? ⟨gs, k * 7, none⟩ = some (.int .i64 (y.pl : Int)) := cx 0 (by omega)
        have x1 : wr.cell? ⟨gs, k * 7 + 1, none⟩ = some (.int .i64 (y.no : Int)) := cx 1 (by omega)
        have x2 : wr.cell? ⟨gs, k * 7 + 2, none⟩ = some (.int .i64 (y.x.lo : Int)) := cx 2 (by omega)
        have x3 : wr.cell? ⟨gs, k * 7 + 3, none⟩ = some (.int .i64 (y.x.hi : Int)) := cx 3 (by omega)
        have x4 : wr.cell? ⟨gs, k * 7 + 4, none⟩ = some (.bool y.x.rest) := cx 4 (by omega)
        have x5 : wr.cell? ⟨gs, k * 7 + 5, none⟩ = some (.int .i64 (y.x.mn : Int)) := cx 5 (by omega)
        have x6 : wr.cell? ⟨gs, k * 7 + 6, none⟩ = some (.int .i64 (y.x.mx : Int)) := cx 6 (by omega)
        have htm := Hx.timF_at (J := J) hy
        have hpr := Hx.preF_at (J := J) hy
        have HFB := hide (Hx.firstB_snoc (J := J) hy)
        have hpl := unhide HPL k
        have hfl := unhide HFL k (by rw [← unhide HN]; exact hk)
        obtain ⟨tm, htmE⟩ : ∃ tm, tm = Hx.timF J L k := ⟨_, rfl⟩
        obtain ⟨pf, hpfE⟩ : ∃ pf, pf = Hx.preF J L k := ⟨_, rfl⟩
        obtain ⟨pf1, hpf1E⟩ : ∃ pf1, pf1 = Hx.preF J L (k + 1) := ⟨_, rfl⟩
        rw [← htmE, ← hpfE] at htm
        rw [← hpf1E, ← htmE] at hpr
        rw [← hpfE] at hpl ⊢
        have HTM := hide htmE
        have HP1 := hide hpf1E
        have HPR := hide hpr
        have HTE := hide htm
        obtain ⟨l0, hl0⟩ : ∃ l0, l0 = Hx.firstB J L k := ⟨_, rfl⟩
        rw [← hl0] at HFB hfl ⊢
        have hrm : Hx.rstM y ≤ y.x.mn := by unfold Hx.rstM; split <;> omega
        have b1 := hks.lo
        have b2 := hks.hi
        have b3 := hks.mn
        have b4 := hks.mx
        have b5 := hks.no
        have htm6 : tm ≤ 1000000 := by omega
        have hpf6 : pf ≤ 1000000 := by omega
        have HS1L := hide (Hx.stp1_len (J := J) (L := L) (k := k) hks (by rw [← htmE]; exact htm6))
        have HS2L := hide (Hx.stp2_len hks)
        have l5 : l0.length ≤ 1000 := by omega
        clear cx hy hks htmE hpfE hpf1E htm hpr hpl hfl hl0 hrm
        go_upto_region 14 with fail
        have HX0 := hide (bN (stpA y) 39 (w := wr) rfl)
        have HBE1 := hide (belA (.cells (stpA y) 39) (unhide HBE))
        obtain ⟨xb, hxb⟩ : ∃ xb, xb = wr.heap.size := ⟨_, rfl⟩
        rw [← hxb] at HX0 ⊢
        clear HBE x0 x1 x2 x3 x4 x5 x6 hxb p0 p2 p3
        generalize wr.alloc (.cells (stpA y) 39) = wx at HX0 HBE1 ⊢
        have HIN : Hid (InF w5 xb y wx) := ⟨unhide HX0, unhide HBE1⟩
        have z4 : wx.cell? ⟨xb, 4, none⟩ = some (.bool y.x.rest) := blk_cell (unhide HX0) 4
        have z5 : wx.cell? ⟨xb, 5, none⟩ = some (.int .i64 (y.x.mn : Int)) := blk_cell (unhide HX0) 5
        clear HX0 HBE1
        go_upto_if 53 with fail
        go_cut [11] (fun s11 wc => s11 = .int .i64 (tm : Int) ∧ wx = wc)
        case first =>
          cases hr : y.x.rest with
          | false =>
            rw [hr] at z4
            have HT2 : Hid (pf = tm) := by
              have h := unhide HTE
              unfold Hx.rstM at h
              rw [hr] at h
              show pf = tm
              simp at h
              exact h.symm
            clear hr
            go_wp2_with fail
            go_meet
            case rel => exact ⟨by rw [unhide HT2], rfl⟩
          | true =>
            rw [hr] at z4
            have HT2 : Hid ((pf : Int) + (y.x.mn : Int) = (tm : Int)) := by
              have h := unhide HTE
              unfold Hx.rstM at h
              rw [hr] at h
              show (pf : Int) + (y.x.mn : Int) = (tm : Int)
              simp at h
              omega
            clear hr
            go_wp2_with fail
            go_meet
            case rel => exact ⟨by rw [unhide HT2], rfl⟩
        case rest =>
        obtain ⟨rfl, rfl⟩ := hcut
        have z0 : wx.cell? ⟨xb, 0, none⟩ = some (.int .i64 (y.pl : Int)) := blk_cell (unhide HIN).xc 0
        have z1 : wx.cell? ⟨xb, 1, none⟩ = some (.int .i64 (y.no : Int)) := blk_cell (unhide HIN).xc 1
        have z2 : wx.cell? ⟨xb, 2, none⟩ = some (.int .i64 (y.x.lo : Int)) := blk_cell (unhide HIN).xc 2
        have z3 : wx.cell? ⟨xb, 3, none⟩ = some (.int .i64 (y.x.hi : Int)) := blk_cell (unhide HIN).xc 3
        clear z4 z5
        go_upto_region 16 with fail
        obtain ⟨tA, htA⟩ : ∃ tA : ByteArray, tA = ⟨l0.toArray⟩ := ⟨_, rfl⟩
        have hsz : tA.size ≤ 1000 := by rw [htA]; exact l5
        rw [← htA]
        have HS1 : Hid (tA ++ ⟨#[59]⟩ ++ (⟨#[97, 98, 99, 100]⟩ : ByteArray).extract y.pl (y.pl + 1) ++ ⟨(Lib.itoa (y.no : Int)).toArray⟩ ++ ⟨#[64]⟩ ++ ⟨(Lib.itoa (tm : Int)).toArray⟩ ++ ⟨#[43]⟩ ++ ⟨(Lib.itoa (y.x.lo : Int)).toArray⟩ ++ ⟨#[45]⟩ ++ ⟨(Lib.itoa (y.x.hi : Int)).toArray⟩ = ⟨(l0 ++ Hx.stp1 J L k y).toArray⟩) := by
          show _ = _
          rw [htA, unhide HTM]
          exact stp1_is (unhide HK1) l0
        clear htA
        go_cut [10] (fun s10 wc => s10 = .string ⟨(l0 ++ Hx.stp1 J L k y).toArray⟩ ∧ InF w5 xb y wc)
        case first =>
          have hpl := (unhide HK1).pl
          have plI : (y.pl : Int) < 4 := by omega
          have pl0 : (0 : Int) ≤ (y.pl : Int) := by omega
          have no0 : (0 : Int) ≤ (y.no : Int) := by omega
          have no1 : (y.no : Int) ≤ 1000000 := by omega
          have tm0 : (0 : Int) ≤ (tm : Int) := by omega
          have tm1 : (tm : Int) ≤ 1000000 := by omega
          have lo0 : (0 : Int) ≤ (y.x.lo : Int) := by omega
          have lo1 : (y.x.lo : Int) ≤ 1000000 := by omega
          have hi0 : (0 : Int) ≤ (y.x.hi : Int) := by omega
          have hi1 : (y.x.hi : Int) ≤ 1000000 := by omega
          have q1 := Hx.itoa_seven (n := y.no) (by omega)
          have q2 := Hx.itoa_seven (n := tm) (by omega)
          have q3 := Hx.itoa_seven (n := y.x.lo) (by omega)
          have q4 := Hx.itoa_seven (n := y.x.hi) (by omega)
          have m1 : ¬ 9223372036854775807 < tA.size + 1 := by omega
          have m2 : ¬ 9223372036854775807 < tA.size + 1 + (min (y.pl + 1) 4 - y.pl) := by omega
          have m3 : ¬ 9223372036854775807 < tA.size + 1 + (min (y.pl + 1) 4 - y.pl) + (Lib.itoa (y.no : Int)).length := by omega
          have m4 : ¬ 9223372036854775807 < tA.size + 1 + (min (y.pl + 1) 4 - y.pl) + (Lib.itoa (y.no : Int)).length + 1 := by omega
          have m5 : ¬ 9223372036854775807 < tA.size + 1 + (min (y.pl + 1) 4 - y.pl) + (Lib.itoa (y.no : Int)).length + 1 + (Lib.itoa (tm : Int)).length := by omega
          have m6 : ¬ 9223372036854775807 < tA.size + 1 + (min (y.pl + 1) 4 - y.pl) + (Lib.itoa (y.no : Int)).length + 1 + (Lib.itoa (tm : Int)).length + 1 := by omega
          have m7 : ¬ 9223372036854775807 < tA.size + 1 + (min (y.pl + 1) 4 - y.pl) + (Lib.itoa (y.no : Int)).length + 1 + (Lib.itoa (tm : Int)).length + 1 + (Lib.itoa (y.x.lo : Int)).length := by omega
          have m8 : ¬ 9223372036854775807 < tA.size + 1 + (min (y.pl + 1) 4 - y.pl) + (Lib.itoa (y.no : Int)).length + 1 + (Lib.itoa (tm : Int)).length + 1 + (Lib.itoa (y.x.lo : Int)).length + 1 := by omega
          have m9 : ¬ 9223372036854775807 < tA.size + 1 + (min (y.pl + 1) 4 - y.pl) + (Lib.itoa (y.no : Int)).length + 1 + (Lib.itoa (tm : Int)).length + 1 + (Lib.itoa (y.x.lo : Int)).length + 1 + (Lib.itoa (y.x.hi : Int)).length := by omega
          clear hpl q1 q2 q3 q4 b1 b2 b3 b4 b5 hsz htm6 hpf6 l5
          go_quiet ((go_at_call 18; refine Calls.quiet_of_same (kdec_gen _ _ (by assumption) (by assumption))))
          go_wp2_with fail
          go_meet
          case rel => exact ⟨by rw [unhide HS1], (unhide HIN).drewN _⟩
        case rest =>
        obtain ⟨rfl, hin⟩ := hcut
        clear HIN z0 z1 z2 z3 HS1 hsz tA
        have HIN := hide hin
        have z4 : wc.cell? ⟨xb, 4, none⟩ = some (.bool y.x.rest) := blk_cell hin.xc 4
        clear hin
        obtain ⟨l1, hl1⟩ : ∃ l1, l1 = l0 ++ Hx.stp1 J L k y := ⟨_, rfl⟩
        have l6 : l1.length ≤ 1100 := by rw [hl1, List.length_append]; have := unhide HS1L; omega
        rw [← hl1] at HFB ⊢
        clear hl1 l5 HS1L
        go_upto_if 86 with fail
        go_cut [10] (fun s10 wc => s10 = .string ⟨(l1 ++ Hx.stp2 y).toArray⟩ ∧ InF w5 xb y wc)
        case first =>
          cases hr : y.x.rest with
          | false =>
            rw [hr] at z4
            have HS2 : Hid (Hx.stp2 y = []) := by unfold Hx.stp2; rw [hr]; rfl
            clear hr
            go_wp2_with fail
            go_meet
            case rel => exact ⟨by rw [unhide HS2, List.append_nil], unhide HIN⟩
          | true =>
            rw [hr] at z4
            obtain ⟨tA, htA⟩ : ∃ tA : ByteArray, tA = ⟨l1.toArray⟩ := ⟨_, rfl⟩
            have hsz : tA.size ≤ 1100 := by rw [htA]; exact l6
            rw [← htA]
            have HS2 : Hid (tA ++ ⟨#[60, 48, 58]⟩ ++ ⟨(Lib.itoa (y.x.mn : Int)).toArray⟩ ++ ⟨#[45]⟩ ++ ⟨(Lib.itoa (y.x.mx : Int)).toArray⟩ = ⟨(l1 ++ Hx.stp2 y).toArray⟩) := by
              show _ = _
              rw [htA]
              exact stp2_is hr l1
            have z5 : wc.cell? ⟨xb, 5, none⟩ = some (.int .i64 (y.x.mn : Int)) := blk_cell (unhide HIN).xc 5
            have z6 : wc.cell? ⟨xb, 6, none⟩ = some (.int .i64 (y.x.mx : Int)) := blk_cell (unhide HIN).xc 6
            have mn0 : (0 : Int) ≤ (y.x.mn : Int) := by omega
            have mn1 : (y.x.mn : Int) ≤ 1000000 := by omega
            have mx0 : (0 : Int) ≤ (y.x.mx : Int) := by omega
            have mx1 : (y.x.mx : Int) ≤ 1000000 := by omega
            have q1 := Hx.itoa_seven (n := y.x.mn) (by omega)
            have q2 := Hx.itoa_seven (n := y.x.mx) (by omega)
            have m1 : ¬ 9223372036854775807 < tA.size + 3 := by omega
            have m2 : ¬ 9223372036854775807 < tA.size + 3 + (Lib.itoa (y.x.mn : Int)).length := by omega
            have m3 : ¬ 9223372036854775807 < tA.size + 3 + (Lib.itoa (y.x.mn : Int)).length + 1 := by omega
            have m4 : ¬ 9223372036854775807 < tA.size + 3 + (Lib.itoa (y.x.mn : Int)).length + 1 + (Lib.itoa (y.x.mx : Int)).length := by omega
            clear hr htA q1 q2 b1 b2 b3 b4 b5 hsz htm6 hpf6 l6
            go_wp2_with fail
            go_quiet ((go_at_call 18; refine Calls.quiet_of_same (kdec_gen _ _ (by assumption) (by assumption))))
            go_wp2_with fail
            go_meet
            case rel => exact ⟨by rw [unhide HS2], (unhide HIN).drewN _⟩
        case rest =>
        obtain ⟨rfl, hin⟩ := hcut
        clear HIN z4
        have HIN := hide hin
        clear hin
        obtain ⟨l2, hl2⟩ : ∃ l2, l2 = l1 ++ Hx.stp2 y := ⟨_, rfl⟩
        have l7 : l2.length ≤ 1200 := by rw [hl2, List.length_append]; have := unhide HS2L; omega
        rw [← hl2] at HFB ⊢
        clear hl2 l6 HS2L
        obtain ⟨p0, p2, p3⟩ := unhide HPC wc (unhide HIN).be
        clear p0 p2
        obtain ⟨ra, hra⟩ : ∃ ra, ra = Hx.restAfter L k := ⟨_, rfl⟩
        have HRA := hide hra
        clear hra
        go_upto_region 19 with fail
        go_cut [112] (fun s112 wx => s112 = .bool ra ∧ wc = wx)
        case first =>
          cases hz : L[k + 1]? with
          | none =>
            have hkn : ¬ (k : Int) + 1 < (n : Int) := by
              have := List.getElem?_eq_none_iff.1 hz
              have := unhide HN
              omega
            have HG : Hid (false = ra) := by show _ = _; rw [unhide HRA]; unfold Hx.restAfter; rw [hz]
            clear hz
            go_wp2_with fail
            go_meet
            case rel => exact ⟨by rw [unhide HG], rfl⟩
          | some z =>
            have hkn : (k : Int) + 1 < (n : Int) := by
              have := (List.getElem?_eq_some_iff.1 hz).1
              have := unhide HN
              omega
            have hk0 : (0 : Int) ≤ (k : Int) + 1 := by omega
            have z4 : wc.cell? ⟨gs, (k + 1) * 7 + 4, none⟩ = some (.bool z.x.rest) := unhide HCE (k + 1) z hz wc (unhide HIN).be 4 (by omega)
            have HG : Hid (z.x.rest = ra) := by show _ = _; rw [unhide HRA]; unfold Hx.restAfter; rw [hz]
            clear hz
            go_wp2_with fail
            go_meet
            case rel => exact ⟨by rw [unhide HG], rfl⟩
        case rest =>
        obtain ⟨rfl, rfl⟩ := hcut
        go_upto_if 112 with fail
        go_cut [10] (fun s10 wx => s10 = .string ⟨(l2 ++ Hx.stp3 L k).toArray⟩ ∧ InF w5 xb y wx)
        case first =>
          obtain ⟨tA, htA⟩ : ∃ tA : ByteArray, tA = ⟨l2.toArray⟩ := ⟨_, rfl⟩
          have hsz : tA.size ≤ 1200 := by rw [htA]; exact l7
          rw [← htA]
          have HTA := hide htA
          have m1 : ¬ 9223372036854775807 < tA.size + 2 := by omega
          clear htA
          cases ra with
          | false =>
            have HS3 : Hid (Hx.stp3 L k = []) := by unfold Hx.stp3; rw [← unhide HRA]; rfl
            go_wp2_with fail
            go_meet
            case rel => exact ⟨by rw [unhide HS3, List.append_nil, unhide HTA], unhide HIN⟩
          | true =>
            have HS3 : Hid (tA ++ ⟨#[62, 48]⟩ = ⟨(l2 ++ Hx.stp3 L k).toArray⟩) := by
              show _ = _
              rw [unhide HTA]
              exact stp3_is (unhide HRA).symm l2
            go_wp2_with fail
            go_meet
            case rel => exact ⟨by rw [unhide HS3], unhide HIN⟩
        case rest =>
        obtain ⟨rfl, hin⟩ := hcut
        clear HIN p3
        have HIN := hide hin
        clear hin
        obtain ⟨p0, p2, p3⟩ := unhide HPC wc (unhide HIN).be
        have z3 : wc.cell? ⟨xb, 3, none⟩ = some (.int .i64 (y.x.hi : Int)) := blk_cell (unhide HIN).xc 3
        rw [← unhide HFB]
        go_wp2_with fail
        go_roundg (n - (k + 1))
        case measure => omega
        case rel => exact ⟨k + 1, by omega, rfl, by go_num, rfl, by rw [← unhide HP1, unhide HPR]; first | rfl | (congr 1; omega), (unhide HIN).be⟩
      · have hltI : ¬ (k : Int) < (n : Int) := by omega
        have hkn : k = n := by omega
        have hkL : k = L.length := by rw [hkn]; exact unhide HN
        have hn0 : 0 < L.length := by rw [← unhide HN]; exact hnpos
        obtain ⟨y, hy⟩ : ∃ y, L[L.length - 1]? = some y := ⟨L[L.length - 1], List.getElem?_eq_getElem (by omega)⟩
        have x0 : wr.cell? ⟨gs, (L.length - 1) * 7, none⟩ = some (.int .i64 (y.pl : Int)) := unhide HCE _ y hy wr (unhide HBE) 0 (by omega)
        obtain ⟨m, hm⟩ : ∃ m, m = L.length - 1 := ⟨_, rfl⟩
        rw [← hm] at x0
        have hwI : IntKind.i64.wrap ((n : Int) - 1) = (m : Int) := by
          rw [show (n : Int) - 1 = (m : Int) by have := unhide HN; omega]
          exact IntWalk.i64_in _ ⟨by omega, by omega⟩
        have hm0 : (0 : Int) ≤ (m : Int) := by omega
        have hmn : (m : Int) < (n : Int) := by have := unhide HN; omega
        have HONE := hide (unhide HLP y hy)
        have hfp := unhide HFP
        have hltL : ¬ (L.length : Int) < (n : Int) := by have := unhide HN; omega
        rw [hkL]
        have hpl := unhide HPL L.length
        obtain ⟨F1, F2, F3⟩ := hfp
        generalize Hx.preF J L L.length = pe at F1 F2 F3 hpl ⊢
        have HF := hide (⟨F1, F2, F3⟩ : _ ∧ _ ∧ _)
        clear F1 F2 F3 hkL hkn hlt hm hn0 hy
        by_cases hone : ps.length = 1
        · have hy0 : ((y.pl : Int) == 0) = true := by rw [beq_iff_eq]; exact (unhide HONE).2 hone
          by_cases hD : pe ≤ D
          · have hDI : (pe : Int) ≤ (D : Int) := by omega
            have e1 := (unhide HF).1 hD
            rw [decide_eq_true hone] at e1
            obtain ⟨rfl, e2⟩ := Prod.mk.inj e1
            obtain ⟨rfl, rfl⟩ := Prod.mk.inj e2
            clear e1 e2 hone hD HF
            go_wp2_with fail
            go_returns
            refine ⟨?_, ?_⟩
            · first | rfl | simp [hy0]
            · exact (unhide HB5).trans (Below.mono (unhide HBE) (unhide HB5).size)
          · have hDI : ¬ (pe : Int) ≤ (D : Int) := by omega
            obtain ⟨rfl, rfl⟩ := (unhide HF).2.1 hD hone
            clear hone hD HF
            go_wp2_with fail
            go_returns
            refine ⟨?_, ?_⟩
            · first | rfl | simp [hy0]
            · exact (unhide HB5).trans (Below.mono (unhide HBE) (unhide HB5).size)
        · have hy0 : ((y.pl : Int) == 0) = false := by rw [beq_eq_false_iff_ne]; exact fun h => hone ((unhide HONE).1 h)
          by_cases hD : pe ≤ D
          · have hDI : (pe : Int) ≤ (D : Int) := by omega
            have e1 := (unhide HF).1 hD
            rw [decide_eq_false hone] at e1
            obtain ⟨rfl, e2⟩ := Prod.mk.inj e1
            obtain ⟨rfl, rfl⟩ := Prod.mk.inj e2
            clear e1 e2 hone hD HF
            go_wp2_with fail
            go_returns
            refine ⟨?_, ?_⟩
            · first | rfl | simp [hy0]
            · exact (unhide HB5).trans (Below.mono (unhide HBE) (unhide HB5).size)
          · have hDI : ¬ (pe : Int) ≤ (D : Int) := by omega
            obtain ⟨rfl, rfl⟩ := (unhide HF).2.2 hD hone
            clear hone hD HF
            go_wp2_with fail
            go_returns
            refine ⟨?_, ?_⟩
            · first | rfl | simp [hy0]
            · exact (unhide HB5).trans (Below.mono (unhide HBE) (unhide HB5).size)
end Go.Proofs.YtppcnlkhdgmaiaaDoor
