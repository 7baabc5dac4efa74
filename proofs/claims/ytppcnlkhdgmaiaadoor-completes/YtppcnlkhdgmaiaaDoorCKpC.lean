/- What Completes answers. -/
import Derived.Test.YtppcnlkhdgmaiaaDoorCKeB
import Derived.Test.YtppcnlkhdgmaiaaDoorCMt
import Derived.Deep.DeepCutAuto
namespace Go.Proofs.YtppcnlkhdgmaiaaDoor
open Go.RowKit

theorem RunE.ple {w : World} (h : RunE w) : PlE w := ⟨h.1, h.2.2⟩
namespace Hx
/-- What Plan answers of a plan's text: an error, or a timetable. -/
theorem comp_is {ps : List (List Stp)} (hs : GoodS ps) {J K D : Nat} (hJ : J < 10) (hK : 1 ≤ K) (hK2 : K < 10) (hD : D < 10000) {s : ByteArray} (htx : s = ⟨(textL J K D (labs ps)).toArray⟩) {N : Nat} (hN : N ≤ 1000) :
    ∃ u x e, planF s (N : Int) = (u, x, e) ∧ ((u.length ≤ 10 ∧ (e = 1 ∨ e = 6 ∨ e = 7 ∨ e = 8)) ∨ (e = 0 ∧ ∃ e0 o f, Told J K D ps u e0 o f)) := by
  have hg := hs.good hJ hK hK2 hD
  obtain ⟨h1, h2⟩ := text_is hs hJ hK hK2 hD htx
  by_cases h120 : s.size ≤ 120
  · have hk := kept_is hs hg hN
    obtain ⟨u, x, e, hA⟩ : ∃ u x e, planS J K D ps (N : Int) = (u, x, e) := ⟨_, _, _, rfl⟩
    rw [hA] at hk
    refine ⟨u, x, e, by rw [h2 h120, hA], ?_⟩
    rcases tightI_cases J (labs ps) with ⟨i, _, _, ht⟩ | ⟨_, ht⟩
    · obtain ⟨y, hy, _, hn, hu, he⟩ := hk.tight i ht
      have hu : u = _ := hu
      have he : e = 6 := he
      left
      refine ⟨?_, Or.inr (Or.inl he)⟩
      have := itoa_seven (n := y.no) (by omega)
      rw [hu, List.length_append, List.length_singleton]
      omega
    · rcases hk.loose ht with ⟨he, e0, o, f, hT, _⟩ | ⟨hu, he⟩ | ⟨hu, he, _⟩
      · exact Or.inr ⟨he, e0, o, f, hT⟩
      · have hu : u = [] := hu
        exact Or.inl ⟨by rw [hu]; simp, Or.inr (Or.inr (Or.inr he))⟩
      · have hu : u = [] := hu
        exact Or.inl ⟨by rw [hu]; simp, Or.inr (Or.inr (Or.inl he))⟩
  · rw [if_pos (by omega)] at h1
    refine ⟨[], false, 1, ?_, Or.inl ⟨by simp, Or.inl rfl⟩⟩
    unfold planF
    rw [h1]
    simp
theorem told_end {J K D : Nat} {ps : List (List Stp)} {u : List UInt8} {e : Int} {o : List Nat} {f : Nat → Int} (h : Told J K D ps u e o f) : ∃ E : Nat, e = (E : Int) ∧ 0 < E ∧ E < 10000 := by
  have hpos := labs_some h.tm.good
  have hlen : (ttab ps o f).length = (labs ps).length := by rw [ttab_len, h.tm.len]
  obtain ⟨y, hy⟩ : ∃ y, (ttab ps o f)[(ttab ps o f).length - 1]? = some y := ⟨_, List.getElem?_eq_getElem (by omega)⟩
  have hover : ((y.t + J + y.hi : Nat) : Int) = e := by
    have ho := h.over
    unfold overF at ho
    rw [List.getLast?_eq_getElem?, List.length_map, List.getElem?_map, hy] at ho
    simp only [Option.map_some] at ho
    rw [← ho]
    show _ = (y.t : Int) + (J : Int) + (y.hi : Int)
    omega
  have hown := right_own h.tm.right hy
  have hD := h.tm.good.d
  have ht := h.tm.time
  rw [← h.en] at ht
  exact ⟨_, hover.symm, by omega, by omega⟩
/-- What stands ahead of the next number. -/
def sepB (ns : List Nat) : List UInt8 := if ns = [] then [] else numsB ns ++ [44]
theorem numsB_sep (ns : List Nat) (n : Nat) : numsB (ns ++ [n]) = sepB ns ++ Lib.itoa (n : Int) := by
  rw [numsB_snoc]
  unfold sepB
  split <;> simp
theorem getD_snoc (ts : List Nat) (c i : Nat) : (ts ++ [c]).getD i 0 = if i = ts.length then c else ts.getD i 0 := by
  rw [List.getD_eq_getElem?_getD, List.getD_eq_getElem?_getD]
  by_cases h : i < ts.length
  · rw [List.getElem?_append_left h, if_neg (by omega)]
  · rw [List.getElem?_append_right (by omega)]
    by_cases h2 : i = ts.length
    · rw [if_pos h2, h2, Nat.sub_self]; rfl
    · rw [if_neg h2, List.getElem?_eq_none (by simp; omega), List.getElem?_eq_none (by omega)]
end Hx
theorem cat_is (a b : List UInt8) : ((⟨a.toArray⟩ : ByteArray) ++ ⟨b.toArray⟩) = ⟨(a ++ b).toArray⟩ := by
  apply ByteArray.ext
  simp
theorem done_cut {v : List UInt8} (V : ByteArray) (h : V = ⟨([100, 111, 110, 101, 59] ++ v).toArray⟩) : V.extract 0 5 = ⟨#[100, 111, 110, 101, 59]⟩ := by
  rw [h]
  apply ByteArray.ext
  simp

set_option maxRecDepth 100000 in
set_option maxHeartbeats 4000000 in
theorem completes_any (sJ sK sD bu : Int) (sv : Value) (qs : List (List Hx.Raw)) (cv : Value) (zc : List Int) (tv : Value) (zt : List Int) (w : World) (h1 : I64 sJ) (h2 : I64 sK) (h3 : I64 sD) (h4 : I64 bu) (hq : RowsR w sv qs) (hzc : IntsR w cv zc) (hzt : IntsR w tv zt) (hE : RunE w) :
    Calls Tryd.prog 7 #[shapeV sJ sK sD sv, .int .i64 bu, cv, tv] w fun e w' => e = .returned (.bool true) ∧ Below w.heap.size w w' := by
  obtain ⟨ao, cap, rfl⟩ : ∃ ao cap, sv = .slice ao qs.length cap := by obtain ⟨ao, cap, e, _⟩ := hq; exact ⟨ao, cap, e⟩
  have HB0 := hide (belA (.cells (shapeA sJ sK sD (.slice ao qs.length cap)) 24) (Below.refl w.heap.size w))
  have HS0 := hide (blk_new w (shapeA sJ sK sD (.slice ao qs.length cap)) 24)
  have HE0 := hide (lasts_run.alloc hE (.cells (shapeA sJ sK sD (.slice ao qs.length cap)) 24))
  have HQ := hide hq
  have hgs := Hx.shapeP_good qs
  have lJ := Hx.pickN_lt sJ (n := 10) (by omega)
  have lK := Hx.pickN_lt sK (n := 3) (by omega)
  have lD := Hx.pickN_lt sD (n := 1000) (by omega)
  have HPO : Hid (∀ w', RowsR w' (.slice ao qs.length cap) qs → Calls Tryd.prog 12 #[shapeV sJ sK sD (.slice ao qs.length cap)] w' fun e w2 => ∃ v, e = .returned (planV (Hx.pickN sJ 10) (1 + Hx.pickN sK 3) (Hx.pickN sD 1000) v) ∧ w2.ownsRow 0 39 7 v (Hx.labs (Hx.shapeP qs)).length (ksCells (Hx.labs (Hx.shapeP qs))) ∧ Below w'.heap.size w' w2) := fun w' h => plan_of_any sJ sK sD _ qs w' h1 h2 h3 h
  generalize Hx.shapeP qs = ps at HPO hgs
  generalize Hx.pickN sJ 10 = J at HPO lJ
  obtain ⟨K, hK⟩ : ∃ K, K = 1 + Hx.pickN sK 3 := ⟨_, rfl⟩
  rw [← hK] at HPO
  generalize Hx.pickN sD 1000 = D at HPO lD
  have hK1 : 1 ≤ K := by omega
  have hK9 : K < 10 := by omega
  obtain ⟨s, hs⟩ : ∃ s : ByteArray, s = ⟨(Hx.textL J K D (Hx.labs ps)).toArray⟩ := ⟨_, rfl⟩
  have hn9 := hgs.nine
  have hsl : s.size ≤ 1000 := by
    have := textL_len (J := J) (K := K) (D := D) (by omega) (by omega) (by omega) (Hx.labs ps) hgs.ks
    rw [hs]
    show (Hx.textL J K D (Hx.labs ps)).length ≤ 1000
    omega
  have HTX : Hid (∀ v w', w'.ownsRow 0 39 7 v (Hx.labs ps).length (ksCells (Hx.labs ps)) → Calls Tryd.prog 13 #[planV J K D v] w' fun e w2 => e = .returned (.string s) ∧ Below w'.heap.size w' w2) := fun v w' h => by rw [hs]; exact textof_any J K D ps v w' lJ hK9 (by omega) hgs h
  have la := Hx.pickN_lt bu (n := 301) (by omega)
  have HPA : Hid (∀ w', Calls Tryd.prog 15 #[.int .i64 bu, .int .i64 301] w' fun e w2 => e = .returned (.int .i64 (Hx.pickN bu 301 : Int)) ∧ w' = w2) := fun w' => (pick_any bu 301 w' h4.1 h4.2 (by omega) (by omega)).mono (fun e w2 h => ⟨h.1, h.2.symm⟩)
  generalize Hx.pickN bu 301 = a at HPA la
  obtain ⟨ua, xa, ea, hA, hcase⟩ := Hx.comp_is hgs lJ hK1 hK9 (by omega) hs (N := a) (by omega)
  have HLA : Hid (∀ w', RunE w' → Calls Tryd.prog 16 #[.string s, .int .i64 (a : Int)] w' fun e w2 => e = .returned (.tuple #[.string ⟨ua.toArray⟩, .bool xa, .int .i64 ea]) ∧ Below w'.heap.size w' w2) := fun w' h => by
    have := plan_any s (a : Int) w' (by unfold maxLen; omega) h.ple.1 h.ple.2
    rw [hA] at this
    exact this
  have HCASE := hide hcase
  obtain ⟨cao, ccap, rfl, hzcl, hzcx⟩ := hzc
  have HPC : Hid (∀ (i : Nat) (z : Int), zc[i]? = some z → I64 z ∧ ∃ b o, cao = some ⟨b, o, none⟩ ∧ ∀ w', Below w.heap.size w w' → w'.cell? ⟨b, o + i, none⟩ = some (.int .i64 z)) := fun i z hi => by
    obtain ⟨h1, b, o, h2, h3⟩ := hzcx i z hi
    exact ⟨h1, b, o, h2, fun w' hb => cell_below hb (Nat.le_refl _) h3⟩
  obtain ⟨tao, tcap, rfl, hztl, hztx⟩ := hzt
  have HPT : Hid (∀ (i : Nat) (z : Int), zt[i]? = some z → I64 z ∧ ∃ b o, tao = some ⟨b, o, none⟩ ∧ ∀ w', Below w.heap.size w w' → w'.cell? ⟨b, o + i, none⟩ = some (.int .i64 z)) := fun i z hi => by
    obtain ⟨h1, b, o, h2, h3⟩ := hztx i z hi
    exact ⟨h1, b, o, h2, fun w' hb => cell_below hb (Nat.le_refl _) h3⟩
  have HNS := hide hgs.nine
  clear hA hcase hs hq hgs hK h1 h2 h3 h4 hE hzcx hztx hn9 hsl
  go_enter Tryd.func7, Tryd.ntmps7
  go_upto_region 1 with fail
  generalize w.alloc (.cells (shapeA sJ sK sD (.slice ao qs.length cap)) 24) = W1 at HB0 HS0 HE0 ⊢
  go_wp2_with fail
  refine (planned_ple W1 (unhide HE0).ple).mono ?_
  rintro e w1 ⟨rfl, hb1⟩
  have HE1 := hide (lasts_run _ _ (unhide HE0) hb1)
  have HB1 := hide ((unhide HB0).trans (hb1.mono (unhide HB0).size))
  have HS1 := hide ((hb1.block _ (lt_of_block (unhide HS0))).trans (unhide HS0))
  clear hb1 HB0 HS0 HE0
  go_wp2_with fail
  refine (ran_any w1 (unhide HE1)).mono ?_
  rintro e w2 ⟨rfl, hb2⟩
  have HE2 := hide (lasts_run _ _ (unhide HE1) hb2)
  have HB2 := hide ((unhide HB1).trans (hb2.mono (unhide HB1).size))
  have HS2 := hide ((hb2.block _ (lt_of_block (unhide HS1))).trans (unhide HS1))
  clear hb2 HB1 HS1 HE1
  have c0 : w2.cell? ⟨w.heap.size, 0, none⟩ = some (.int .i64 sJ) := blk_cell (unhide HS2) 0
  have c1 : w2.cell? ⟨w.heap.size, 1, none⟩ = some (.int .i64 sK) := blk_cell (unhide HS2) 1
  have c2 : w2.cell? ⟨w.heap.size, 2, none⟩ = some (.int .i64 sD) := blk_cell (unhide HS2) 2
  have c3 : w2.cell? ⟨w.heap.size, 3, none⟩ = some (.slice ao qs.length cap) := blk_cell (unhide HS2) 3
  go_wp2_with fail
  refine (unhide HPO w2 ((unhide HQ).below (unhide HB2) (Nat.le_refl _))).mono ?_
  rintro e w3 ⟨v3, rfl, ho3, hb3⟩
  have HE3 := hide (lasts_run _ _ (unhide HE2) hb3)
  have HB3 := hide ((unhide HB2).trans (hb3.mono (unhide HB2).size))
  have HO3 := hide ho3
  clear hb3 ho3 HE2 HB2 HPO HQ HS2 c0 c1 c2 c3
  go_wp2_with fail
  refine (unhide HTX _ w3 (unhide HO3)).mono ?_
  rintro e w4 ⟨rfl, hb4⟩
  have HE4 := hide (lasts_run _ _ (unhide HE3) hb4)
  have HB4 := hide ((unhide HB3).trans (hb4.mono (unhide HB3).size))
  clear hb4 HE3 HB3 HO3 HTX
  go_wp2_with fail
  refine (unhide HPA _).mono ?_
  rintro e w5 ⟨rfl, rfl⟩
  go_wp2_with fail
  refine (unhide HLA _ (unhide HE4)).mono ?_
  rintro e w5 ⟨rfl, hb5⟩
  have HE5 := hide (lasts_run _ _ (unhide HE4) hb5)
  have HB5 := hide ((unhide HB4).trans (hb5.mono (unhide HB4).size))
  clear hb5 HE4 HB4 HLA HPA
  rcases unhide HCASE with ⟨hul, hea⟩ | ⟨rfl, e0, o, f, htold⟩
  · have HUL : Hid ((⟨ua.toArray⟩ : ByteArray).size ≤ 1000) := by show ua.length ≤ 1000; omega
    clear hul HCASE
    rcases hea with rfl | rfl | rfl | rfl
    all_goals
      go_wp2_with fail
      refine (entries_any ⟨ua.toArray⟩ _ (unhide HUL)).mono ?_
      rintro e w6 ⟨hb6, v6, rfl, _, _⟩
      have HB6 := hide ((unhide HB5).trans (hb6.mono (unhide HB5).size))
      clear hb6
      go_wp2_with fail
      go_returns
      exact ⟨rfl, unhide HB6⟩
  · have TD := hide htold
    obtain ⟨E, hE1, hE0, hE4⟩ := Hx.told_end htold
    have HE1 := hide hE1
    have hll : (Hx.ttab ps o f).length = (Hx.labs ps).length := by rw [Hx.ttab_len, htold.tm.len]
    have hlp := Hx.labs_some htold.tm.good
    have HLS := hide htold.tm.right.ok
    clear htold HCASE
    go_wp2_with fail
    refine (told_any (unhide TD) _).mono ?_
    rintro e w6 ⟨hb6, v6, rfl, ho6⟩
    have HE6 := hide (lasts_run _ _ (unhide HE5) hb6)
    have HB6 := hide ((unhide HB5).trans (hb6.mono (unhide HB5).size))
    have HO6 := hide ho6
    clear hb6 ho6 HE5 HB5
    go_wp2_with fail
    refine (told_over (unhide TD) v6 _ (unhide HO6)).mono ?_
    rintro e w7 ⟨rfl, hd7⟩
    have HE7 := hide (lasts_run _ _ (unhide HE6) (hd7.below (Below.refl _ _)))
    have HB7 := hide (hd7.below (unhide HB6))
    have HO7 := hide (own_below (unhide HO6) (hd7.below (Below.refl _ _)))
    clear hd7 HE6 HB6 HO6
    rw [unhide HE1]
    obtain ⟨l, hl⟩ : ∃ l, l = Hx.ttab ps o f := ⟨_, rfl⟩
    have HL := hide hl
    rw [← hl] at HO7 HLS hll
    rw [List.length_map] at HO7
    obtain ⟨n, hn⟩ : ∃ n, n = l.length := ⟨_, rfl⟩
    have hn0 : 0 < n := by omega
    have hn9 : n ≤ 9 := by have := unhide HNS; omega
    rw [← hn] at HO7
    have HN := hide hn
    obtain ⟨ge, cape, rfl, _, hge⟩ := own_pos (unhide HO7) hn0
    have HCE : Hid (∀ (j : Nat) (y : Hx.TStp), l[j]? = some y → ∀ t, t < 9 → w7.cell? ⟨ge, j * 9 + t, none⟩ = (entCells (Hx.entOf y))[t]?) := fun j y hy t ht =>
      own_at entCells 9 (fun _ => rfl) (unhide HO7) (by rw [List.length_map]; exact unhide HN) j _ (by rw [List.getElem?_map, hy]; rfl) t ht
    have hJ1 : (J : Int) < 10 := by omega
    clear hE1 hl hn hll hlp HO7
    go_wp2_with fail
    go_loopg [18, 19, 20] E (fun gk tt nn kk wr => ∃ cs : List Nat, gk = E - cs.sum ∧ tt = .string ⟨(Hx.numsB cs).toArray⟩ ∧ nn = .int .i64 (cs.sum : Int) ∧ kk = .int .i64 (cs.length : Int) ∧ Hid (∀ c ∈ cs, c ≤ J + 1) ∧ (Hx.numsB cs).length ≤ 800 ∧ cs.length ≤ cs.sum ∧ cs.sum ≤ E + 10 ∧ w7 = wr)
    case atStart => exact ⟨[], rfl, rfl, rfl, rfl, (hide (fun c h => absurd h List.not_mem_nil) : Hid (∀ c ∈ ([] : List Nat), c ≤ J + 1)), Nat.zero_le _, Nat.le_refl _, Nat.zero_le _, rfl⟩
    case round =>
      obtain ⟨cs, rfl, rfl, rfl, rfl, HC, hbl, hks, hsE, rfl⟩ := hrel
      obtain ⟨k, hk⟩ : ∃ k, k = cs.length := ⟨_, rfl⟩
      obtain ⟨nw, hnw⟩ : ∃ nw, nw = cs.sum := ⟨_, rfl⟩
      have HK := hide hk
      have HNW := hide hnw
      rw [← hk, ← hnw] at hks
      rw [← hnw] at hsE ⊢
      rw [← hk]
      obtain ⟨tA, htA⟩ : ∃ tA : ByteArray, tA = ⟨(Hx.numsB cs).toArray⟩ := ⟨_, rfl⟩
      have hsz : tA.size ≤ 800 := by rw [htA]; exact hbl
      rw [← htA]
      have HTA := hide htA
      clear hk hnw htA hbl
      by_cases hlt : nw < E
      · have hltI : (nw : Int) < (E : Int) := by omega
        go_upto_if 71 with fail
        go_cut [21] (fun s21 wc => ∃ c : Nat, s21 = .int .i64 (c : Int) ∧ 1 ≤ c ∧ c ≤ J + 1 ∧ w7 = wc)
        case first =>
          cases hzk : zc[k]? with
          | none =>
            have hkz : ¬ (k : Int) < (zc.length : Int) := by
              have := List.getElem?_eq_none_iff.1 hzk
              omega
            clear hzk
            go_wp2_with fail
            go_meet
            case rel => exact ⟨J + 1, by congr 1, by omega, by omega, rfl⟩
          | some z =>
            have hkz : (k : Int) < (zc.length : Int) := by
              have := (List.getElem?_eq_some_iff.1 hzk).1
              omega
            obtain ⟨g1, b, ob, rfl, g2⟩ := unhide HPC k z hzk
            have cz := g2 w7 (unhide HB7)
            have hk0 : (0 : Int) ≤ (k : Int) := by omega
            have hp := Hx.pickN_lt z (n := J + 1) (by omega)
            have HPK : Hid (∀ w', Calls Tryd.prog 15 #[.int .i64 z, .int .i64 ((J : Int) + 1)] w' fun e w2 => e = .returned (.int .i64 (Hx.pickN z (J + 1) : Int)) ∧ w' = w2) := fun w' => (pick_any z (J + 1) w' g1.1 g1.2 (by omega) (by omega)).mono (fun e w2 h => ⟨h.1, h.2.symm⟩)
            generalize Hx.pickN z (J + 1) = q at HPK hp
            clear hzk g1 g2
            go_wp2_with fail
            refine (unhide HPK _).mono ?_
            rintro e w8 ⟨rfl, rfl⟩
            go_wp2_with fail
            go_meet
            case rel => exact ⟨1 + q, by congr 1, by omega, by omega, rfl⟩
        case rest =>
        obtain ⟨c, rfl, hc1, hc2, rfl⟩ := hcut
        obtain ⟨lb, hlb⟩ : ∃ lb, lb = Hx.sepB cs := ⟨_, rfl⟩
        obtain ⟨tB, htB⟩ : ∃ tB : ByteArray, tB = ⟨lb.toArray⟩ := ⟨_, rfl⟩
        have HTB := hide htB
        have HLB := hide hlb
        have hszB : tB.size ≤ 801 := by
          rw [htB, hlb]
          show (Hx.sepB cs).length ≤ 801
          unfold Hx.sepB
          have : (Hx.numsB cs).length ≤ 800 := by have := hsz; rw [unhide HTA] at this; exact this
          split
          · simp
          · simp; omega
        clear htB hlb
        go_upto_if 81 with fail
        go_cut [18] (fun s18 wc => s18 = .string tB ∧ w7 = wc)
        case first =>
          by_cases hk0 : 0 < k
          · have hk0I : (0 : Int) < (k : Int) := by omega
            have m1 : ¬ 9223372036854775807 < tA.size + 1 := by omega
            have HG : Hid (tA ++ ⟨#[44]⟩ = tB) := by
              show _ = _
              rw [unhide HTA, unhide HTB, unhide HLB, show (⟨#[44]⟩ : ByteArray) = ⟨([44] : List UInt8).toArray⟩ from rfl, cat_is]
              unfold Hx.sepB
              rw [if_neg (by intro g; have := unhide HK; rw [g] at this; simp at this; omega)]
            clear hk0
            go_wp2_with fail
            go_meet
            case rel => exact ⟨by rw [unhide HG], rfl⟩
          · have hk0I : ¬ (0 : Int) < (k : Int) := by omega
            have HG : Hid (tA = tB) := by
              show _ = _
              have e : cs = [] := List.length_eq_zero_iff.1 (by have := unhide HK; omega)
              rw [unhide HTA, unhide HTB, unhide HLB, e]
              rfl
            clear hk0
            go_wp2_with fail
            go_meet
            case rel => exact ⟨by rw [unhide HG], rfl⟩
        case rest =>
        obtain ⟨rfl, rfl⟩ := hcut
        obtain ⟨tN, htN⟩ : ∃ tN : ByteArray, tN = ⟨(Hx.numsB (cs ++ [c])).toArray⟩ := ⟨_, rfl⟩
        have q1 := Hx.itoa_seven (n := c) (by omega)
        have HG : Hid (tB ++ ⟨(Lib.itoa (c : Int)).toArray⟩ = tN) := by
          show _ = _
          rw [htN, Hx.numsB_sep, unhide HTB, unhide HLB, cat_is]
        have HDC : Hid (∀ w', Calls Tryd.prog 18 #[.int .i64 (c : Int)] w' fun e w2 => e = .returned (.string ⟨(Lib.itoa (c : Int)).toArray⟩) ∧ w' = w2) := fun w' => (kdec_as c _ w' (by omega) rfl).mono (fun e w2 h => ⟨h.1, h.2.symm⟩)
        have HTN := hide htN
        have m1 : ¬ 9223372036854775807 < tB.size + (Lib.itoa (c : Int)).length := by omega
        clear htN q1
        go_upto_region 20 with fail
        go_cut [18] (fun s18 wc => s18 = .string tN ∧ w7 = wc)
        case first =>
          go_wp2_with fail
          refine (unhide HDC _).mono ?_
          rintro e w8 ⟨rfl, rfl⟩
          go_wp2_with fail
          go_meet
          case rel => exact ⟨by rw [unhide HG], rfl⟩
        case rest =>
        obtain ⟨rfl, rfl⟩ := hcut
        clear m1 HG HDC HTB HLB hszB HTA hsz
        by_cases h8 : tN.size ≤ 800
        · have h8I : ¬ (800 : Int) < (tN.size : Int) := by omega
          go_wp2_with fail
          go_roundg (E - (nw + c))
          case measure => have := unhide HNW; omega
          case rel =>
            have hnw := unhide HNW
            have hk := unhide HK
            have es : (cs ++ [c]).sum = nw + c := by rw [List.sum_append, hnw]; simp
            refine ⟨cs ++ [c], by rw [es], by rw [unhide HTN], by rw [es]; congr 1, by rw [List.length_append, ← hk]; congr 1, fun d hd => ?_, by have := h8; rw [unhide HTN] at this; exact this, by rw [es, List.length_append, ← hk]; show k + 1 ≤ nw + c; omega, by rw [es]; omega, rfl⟩
            rcases List.mem_append.1 hd with h | h
            · exact unhide HC d h
            · rw [List.mem_singleton.1 h]; exact hc2
        · have h8I : (800 : Int) < (tN.size : Int) := by omega
          go_wp2_with fail
          go_returns
          exact ⟨rfl, unhide HB7⟩
      · have hltI : ¬ (nw : Int) < (E : Int) := by omega
        have HCS : Hid (cs ≠ []) := fun g => by have := unhide HNW; rw [g] at this; simp at this; omega
        have HSM : Hid (E ≤ cs.sum) := by show _ ≤ _; have := unhide HNW; omega
        have m1 : ¬ 9223372036854775807 < tA.size + 1 := by omega
        obtain ⟨tS, htS⟩ : ∃ tS : ByteArray, tS = ⟨(Hx.numsB cs ++ [47]).toArray⟩ := ⟨_, rfl⟩
        have HG : Hid (tA ++ ⟨#[47]⟩ = tS) := by
          show _ = _
          rw [unhide HTA, htS, show (⟨#[47]⟩ : ByteArray) = ⟨([47] : List UInt8).toArray⟩ from rfl, cat_is]
        have HTS := hide htS
        have hsS : (Hx.numsB cs ++ [47]).length ≤ 801 := by
          have : (Hx.numsB cs).length ≤ 800 := by have := hsz; rw [unhide HTA] at this; exact this
          rw [List.length_append]
          show (Hx.numsB cs).length + 1 ≤ 801
          omega
        clear htS
        go_upto_region 24 with fail
        go_cut [18] (fun s18 wc => s18 = .string tS ∧ w7 = wc)
        case first =>
          go_wp2_with fail
          go_meet
          case rel => exact ⟨by rw [unhide HG], rfl⟩
        case rest =>
        obtain ⟨rfl, rfl⟩ := hcut
        clear m1 HG hsz HTA
        obtain ⟨lS, hlS⟩ : ∃ lS, lS = Hx.numsB cs ++ [47] := ⟨_, rfl⟩
        rw [← hlS] at hsS HTS
        have HLSS := hide hlS
        clear hlS
        go_wp2_with fail
        go_loopg [18, 22] n (fun gk tt kk wr => ∃ ts : List Nat, ts.length ≤ n ∧ gk = n - ts.length ∧ tt = .string ⟨(lS ++ Hx.numsB ts).toArray⟩ ∧ kk = .int .i64 (ts.length : Int) ∧ Hid (∀ (i : Nat) (x : Hx.TStp), i < ts.length → l[i]? = some x → x.lo ≤ ts.getD i 0 ∧ ts.getD i 0 ≤ x.hi) ∧ (lS ++ Hx.numsB ts).length ≤ 801 + 8 * ts.length ∧ Dr w7 wr)
        case atStart => exact ⟨[], Nat.zero_le _, rfl, by rw [unhide HTS]; congr 2; simp [Hx.numsB, Hx.joinC], rfl, (hide (fun i x h _ => absurd h (Nat.not_lt_zero _)) : Hid (∀ (i : Nat) (x : Hx.TStp), i < ([] : List Nat).length → l[i]? = some x → x.lo ≤ ([] : List Nat).getD i 0 ∧ ([] : List Nat).getD i 0 ≤ x.hi)), by simpa [Hx.numsB, Hx.joinC] using hsS, Dr.refl _⟩
        case round =>
          obtain ⟨ts, htn, rfl, rfl, rfl, HT, hbl, hdr⟩ := hrel
          obtain ⟨k2, hk2⟩ : ∃ k2, k2 = ts.length := ⟨_, rfl⟩
          have HK2 := hide hk2
          rw [← hk2] at htn hbl ⊢
          obtain ⟨tA, htA⟩ : ∃ tA : ByteArray, tA = ⟨(lS ++ Hx.numsB ts).toArray⟩ := ⟨_, rfl⟩
          have hsz : tA.size ≤ 900 := by rw [htA]; show (lS ++ Hx.numsB ts).length ≤ 900; omega
          rw [← htA]
          have HTA := hide htA
          have HBL := hide hbl
          have HDR := hide hdr
          clear hk2 htA hbl hdr
          by_cases hlt2 : k2 < n
          · have hlt2I : (k2 : Int) < (n : Int) := by omega
            obtain ⟨x, hx⟩ : ∃ x, l[k2]? = some x := ⟨l[k2]'(by rw [← unhide HN]; exact hlt2), List.getElem?_eq_getElem _⟩
            have hok := unhide HLS x (List.mem_of_getElem? hx)
            have b1 := hok.lo
            have b2 := hok.hi
            have HX := hide hx
            have hlh : x.lo ≤ x.hi := by
              have hR : Hx.Right l := by rw [unhide HL]; exact (unhide TD).tm.right
              exact (Hx.right_own hR hx).2.2.1
            have x4 : wr.cell? ⟨ge, k2 * 9 + 4, none⟩ = some (.int .i64 (x.hi : Int)) := by rw [(unhide HDR).cell]; exact unhide HCE k2 x hx 4 (by omega)
            have x3 : wr.cell? ⟨ge, k2 * 9 + 3, none⟩ = some (.int .i64 (x.lo : Int)) := by rw [(unhide HDR).cell]; exact unhide HCE k2 x hx 3 (by omega)
            clear hok hx
            go_upto_if 110 with fail
            go_cut [23] (fun s23 wc => ∃ c : Nat, s23 = .int .i64 (c : Int) ∧ x.lo ≤ c ∧ c ≤ x.hi ∧ Dr w7 wc)
            case first =>
              cases hzk : zt[k2]? with
              | none =>
                have hkz : ¬ (k2 : Int) < (zt.length : Int) := by
                  have := List.getElem?_eq_none_iff.1 hzk
                  omega
                clear hzk
                go_wp2_with fail
                go_meet
                case rel => exact ⟨x.hi, rfl, hlh, Nat.le_refl _, unhide HDR⟩
              | some z =>
                have hkz : (k2 : Int) < (zt.length : Int) := by
                  have := (List.getElem?_eq_some_iff.1 hzk).1
                  omega
                obtain ⟨g1, b, ob, rfl, g2⟩ := unhide HPT k2 z hzk
                have cz : wr.cell? ⟨b, ob + k2, none⟩ = some (.int .i64 z) := by rw [(unhide HDR).cell]; exact g2 w7 (unhide HB7)
                have hk0 : (0 : Int) ≤ (k2 : Int) := by omega
                have hp := Hx.pickN_lt z (n := x.hi - x.lo + 1) (by omega)
                have HPK : Hid (∀ w', Calls Tryd.prog 15 #[.int .i64 z, .int .i64 ((x.hi : Int) - (x.lo : Int) + 1)] w' fun e w2 => e = .returned (.int .i64 (Hx.pickN z (x.hi - x.lo + 1) : Int)) ∧ w2 = w') := fun w' => by
                  rw [show (x.hi : Int) - (x.lo : Int) + 1 = ((x.hi - x.lo + 1 : Nat) : Int) by omega]
                  exact pick_any z (x.hi - x.lo + 1) w' g1.1 g1.2 (by omega) (by omega)
                generalize Hx.pickN z (x.hi - x.lo + 1) = q at HPK hp
                have w1 : IntKind.i64.wrap ((x.hi : Int) - (x.lo : Int)) = (x.hi : Int) - (x.lo : Int) := IntWalk.i64_in _ ⟨by omega, by omega⟩
                have w2 : IntKind.i64.wrap ((x.hi : Int) - (x.lo : Int) + 1) = (x.hi : Int) - (x.lo : Int) + 1 := IntWalk.i64_in _ ⟨by omega, by omega⟩
                clear hzk g1 g2
                go_wp2_with fail
                go_quiet ((go_at_call 15; refine Calls.quiet_of_same (unhide HPK _)))
                go_wp2_with fail
                go_meet
                case rel => exact ⟨x.lo + q, by congr 1, by omega, by omega, (unhide HDR).more _⟩
            case rest =>
            obtain ⟨c, rfl, hc1, hc2, hdr⟩ := hcut
            clear HDR x3 x4
            have HDR := hide hdr
            clear hdr
            obtain ⟨lb, hlb⟩ : ∃ lb, lb = lS ++ Hx.sepB ts := ⟨_, rfl⟩
            obtain ⟨tB, htB⟩ : ∃ tB : ByteArray, tB = ⟨lb.toArray⟩ := ⟨_, rfl⟩
            have HTB := hide htB
            have HLB := hide hlb
            have hszB : tB.size ≤ 901 := by
              rw [htB, hlb]
              show (lS ++ Hx.sepB ts).length ≤ 901
              have h9 := unhide HBL
              rw [List.length_append] at h9 ⊢
              unfold Hx.sepB
              split
              · simp; omega
              · rw [List.length_append]; show lS.length + ((Hx.numsB ts).length + 1) ≤ 901; omega
            clear htB hlb
            go_upto_if 135 with fail
            go_cut [18] (fun s18 wx => s18 = .string tB ∧ wc = wx)
            case first =>
              by_cases hk0 : 0 < k2
              · have hk0I : (0 : Int) < (k2 : Int) := by omega
                have m1 : ¬ 9223372036854775807 < tA.size + 1 := by omega
                have HG : Hid (tA ++ ⟨#[44]⟩ = tB) := by
                  show _ = _
                  rw [unhide HTA, unhide HTB, unhide HLB, show (⟨#[44]⟩ : ByteArray) = ⟨([44] : List UInt8).toArray⟩ from rfl, cat_is]
                  unfold Hx.sepB
                  rw [if_neg (by intro g; have := unhide HK2; rw [g] at this; simp at this; omega), List.append_assoc]
                clear hk0
                go_wp2_with fail
                go_meet
                case rel => exact ⟨by rw [unhide HG], rfl⟩
              · have hk0I : ¬ (0 : Int) < (k2 : Int) := by omega
                have HG : Hid (tA = tB) := by
                  show _ = _
                  have e : ts = [] := List.length_eq_zero_iff.1 (by have := unhide HK2; omega)
                  rw [unhide HTA, unhide HTB, unhide HLB, e]
                  rfl
                clear hk0
                go_wp2_with fail
                go_meet
                case rel => exact ⟨by rw [unhide HG], rfl⟩
            case rest =>
            obtain ⟨rfl, rfl⟩ := hcut
            obtain ⟨tN, htN⟩ : ∃ tN : ByteArray, tN = ⟨(lS ++ Hx.numsB (ts ++ [c])).toArray⟩ := ⟨_, rfl⟩
            have q1 := Hx.itoa_seven (n := c) (by omega)
            have HG : Hid (tB ++ ⟨(Lib.itoa (c : Int)).toArray⟩ = tN) := by
              show _ = _
              rw [htN, Hx.numsB_sep, unhide HTB, unhide HLB, cat_is, List.append_assoc]
            have HLEN : Hid ((lS ++ Hx.numsB (ts ++ [c])).length ≤ 801 + 8 * (k2 + 1)) := by
              show _ ≤ _
              have h9 := unhide HBL
              rw [Hx.numsB_sep]
              rw [List.length_append] at h9
              rw [List.length_append, List.length_append]
              unfold Hx.sepB
              split
              · simp; omega
              · rw [List.length_append]; show lS.length + ((Hx.numsB ts).length + 1 + _) ≤ _; omega
            have HDC : Hid (∀ w', Calls Tryd.prog 18 #[.int .i64 (c : Int)] w' fun e w2 => e = .returned (.string ⟨(Lib.itoa (c : Int)).toArray⟩) ∧ w' = w2) := fun w' => (kdec_as c _ w' (by omega) rfl).mono (fun e w2 h => ⟨h.1, h.2.symm⟩)
            have HTN := hide htN
            have m1 : ¬ 9223372036854775807 < tB.size + (Lib.itoa (c : Int)).length := by omega
            clear htN q1
            go_wp2_with fail
            refine (unhide HDC _).mono ?_
            rintro e w8 ⟨rfl, rfl⟩
            go_wp2_with fail
            go_roundg (n - (k2 + 1))
            case measure => have := unhide HK2; omega
            case rel =>
              have hk := unhide HK2
              refine ⟨ts ++ [c], by rw [List.length_append, ← hk]; show k2 + 1 ≤ n; omega, by rw [List.length_append, ← hk]; rfl, by rw [unhide HG, unhide HTN], by rw [List.length_append, ← hk]; congr 1, fun i y hi hy => ?_, by rw [show (ts ++ [c]).length = k2 + 1 by rw [List.length_append, ← hk]; rfl]; exact unhide HLEN, unhide HDR⟩
              rw [Hx.getD_snoc]
              by_cases e : i = ts.length
              · rw [if_pos e]
                rw [e, ← hk, unhide HX] at hy
                cases hy
                exact ⟨hc1, hc2⟩
              · rw [if_neg e]
                rw [List.length_append] at hi
                exact unhide HT i y (by have : i < ts.length + 1 := hi; omega) hy
          · have hlt2I : ¬ (k2 : Int) < (n : Int) := by omega
            by_cases h8 : tA.size ≤ 800
            · have h8I : ¬ (800 : Int) < (tA.size : Int) := by omega
              have HTK : Hid (Hx.TkOk l ts) := by
                have hk := unhide HK2
                have hn := unhide HN
                refine ⟨by omega, fun i x hx => ?_⟩
                have := Hx.getElem?_lt hx
                exact unhide HT i x (by omega) hx
              obtain ⟨v, hv, hvn⟩ := Hx.run_done (unhide TD) (cs := cs) (ts := ts) (unhide HCS) (unhide HC) (by rw [unhide HE1]; have := unhide HSM; omega) (by rw [← unhide HL]; exact unhide HTK) (t := tA) (by rw [unhide HTA, unhide HLSS]) h8
              obtain ⟨V, hV⟩ : ∃ V : ByteArray, V = ⟨([100, 111, 110, 101, 59] ++ v).toArray⟩ := ⟨_, rfl⟩
              have hex := done_cut V hV
              have hV5 : 5 < V.size := by
                rw [hV]
                show 5 < ([100, 111, 110, 101, 59] ++ v).length
                rw [List.length_append]
                have := List.length_pos_iff.2 hvn
                show 5 < 5 + v.length
                omega
              have hV5I : (5 : Int) < (V.size : Int) := by omega
              have HEX := hide hex
              have HRN : Hid (∀ w', RunE w' → Calls Tryd.prog 27 #[.string ⟨ua.toArray⟩, .string tA] w' fun e w2 => e = .returned (.tuple #[.string V, .int .i64 0]) ∧ Below w'.heap.size w' w2) := fun w' h => by
                have hz := (unhide TD).size
                have := run_any ⟨ua.toArray⟩ tA w' (by unfold maxLen; omega) (by unfold maxLen; omega) h.1 h.2.1 h.2.2
                rw [hv] at this
                rw [hV]
                exact this
              have HE9 := hide (lasts_run _ _ (unhide HE7) ((unhide HDR).below (Below.refl _ _)))
              have HB9 := hide ((unhide HDR).below (unhide HB7))
              clear hv hvn hV hex HTK HTA
              go_wp2_with fail
              refine (unhide HRN _ (unhide HE9)).mono ?_
              rintro e w8 ⟨rfl, hb8⟩
              have HB8 := hide ((unhide HB9).trans (hb8.mono (unhide HB9).size))
              clear hb8
              go_wp2_with fail
              go_returns
              refine ⟨?_, unhide HB8⟩
              rw [unhide HEX]
              first | rfl | simp
            · have h8I : (800 : Int) < (tA.size : Int) := by omega
              have HB9 := hide ((unhide HDR).below (unhide HB7))
              go_wp2_with fail
              go_returns
              exact ⟨rfl, unhide HB9⟩
end Go.Proofs.YtppcnlkhdgmaiaaDoor
