/- What slices.Repeat does at one number. -/
import Derived.Test.YtppcnlkhdgmaiaaGreatDoorPlT
import Derived.Laws.CopyOwn
namespace Go.Proofs.YtppcnlkhdgmaiaaGreatDoor
open Go.RowKit

def repC (n k : Nat) : List Value := List.replicate k (.int .i64 (-1)) ++ List.replicate (n - k) (.int .i64 0)

theorem repC_zero (n : Nat) : repC n 0 = List.replicate n (.int .i64 0) := by simp [repC]
theorem repC_full (n : Nat) : repC n n = List.replicate n (.int .i64 (-1)) := by simp [repC]
theorem repC_length {n k : Nat} (h : k ≤ n) : (repC n k).length = n := by simp [repC]; omega
theorem repC_splice {n k c : Nat} : splice (repC n k) k (List.replicate c (.int .i64 (-1))) = repC n (k + c) := by
  unfold splice repC
  rw [List.length_replicate, List.take_left' (by simp), ← List.drop_drop, List.drop_left' (by simp), List.drop_replicate, ← List.append_assoc, List.replicate_append_replicate]
  congr 2
  omega
theorem repC_get {n k j : Nat} (h : j < k) : (repC n k)[j]? = some (.int .i64 (-1)) := by
  unfold repC
  rw [List.getElem?_append_left (by simpa using h), List.getElem?_replicate, if_pos h]
theorem own_full {w : World} {base : Nat} {e : TypeId} {g n : Nat} {xs : List Value} (h : w.ownsRow base e 1 (.slice (some ⟨g, 0, none⟩) n n) n xs) : w.heap[g]? = some (.cells xs.toArray e (0, 0)) := by
  obtain ⟨hl, ⟨hv, _⟩ | ⟨g', cap, cur, hv, _, hh, _, _, hs, ht⟩⟩ := h
  · cases hv
  · cases hv
    rw [hh]
    congr 2
    rw [← ht, List.take_of_length_le (by simpa using Nat.le_of_eq hs)]

theorem made_zero (n : Nat) : (madeCells (Value.int .i64 0).cells (n * 1)).toList = List.replicate n (.int .i64 0) := by
  show (madeCells #[Value.int .i64 0] (n * 1)).toList = _
  rw [toList_madeCells_one, Nat.mul_one]

set_option maxRecDepth 100000 in
set_option maxHeartbeats 400000 in
theorem repeat_any (b n : Nat) (w : World) (hb : w.cell? ⟨b, 0, none⟩ = some (.int .i64 (-1))) (hbl : b < w.heap.size) (hn1 : 1 ≤ n) (hn : n ≤ 1000) :
    Calls Tryz.prog 52 #[.slice (some ⟨b, 0, none⟩) 1 1, .int .i64 (n : Int)] w fun e w' => e = .returned (.slice (some ⟨w.heap.size, 0, none⟩) n n) ∧ w'.heap[w.heap.size]? = some (.cells (List.replicate n (.int .i64 (-1))).toArray 3 (0, 0)) ∧ Below w.heap.size w w' := by
  obtain ⟨i3, hi3, hz30, hz31, hz32⟩ := info_parts Tryz.info3
  have HI3 := hide hi3
  have HZ30 := hide hz30
  have HZ31 := hide hz31
  have HZ32 := hide hz32
  have HB := hide hb
  clear hb hi3 hz30 hz31 hz32
  have hnI : ¬ ((n : Int) < 0) := by omega
  have d1 : (1 * n / 18446744073709551616 : Nat) = 0 := by omega
  have d2 : (1 * n % 18446744073709551616 : Nat) = n := by omega
  have HM := hide (Tryz.bits_Mul 1 n (by omega) (by omega))
  rw [d1, d2] at HM
  clear d1 d2
  go_enter Tryz.func52, Tryz.ntmps52
  go_upto_region 7 with (first
    | (go_at_call 79; refine (unhide HM _).mono ?_; rintro e w1 ⟨rfl, hw⟩; rw [hw]; clear hw w1)
    | (at_make; refine wpList_make_full _ rfl _ _ 64 rfl w.heap.size 3 i3 (.int .i64 0) 1 Tryz.underlying64 (unhide HI3) (unhide HZ30) (unhide HZ31) _ _ _ _ n rfl rfl (by simp) (by simp) (by rw [unhide HZ32]; omega) (by unfold maxLen; omega) (Nat.le_refl _) ?_; intro w2 hown2 hgrow2))
  have HG : Hid (w2.heap[w.heap.size]? = some (.cells (repC n 0).toArray 3 (0, 0))) := by
    have := own_full hown2
    rw [made_zero] at this
    rw [repC_zero]; exact this
  have HB2 := hide ((Below.refl w.heap.size w).grown hgrow2 (Nat.le_refl _) (fun k e => by cases e))
  have HS : Hid (w2.cell? ⟨b, 0, none⟩ = some (.int .i64 (-1))) := by
    show _ = _
    rw [(unhide HB2).cell hbl]; exact unhide HB
  clear hown2 hgrow2 HB
  have HSZ : Hid ((Tryz.prog.info? 3).map (·.size) = some 1) := by
    show _ = _
    rw [unhide HI3]; simp [unhide HZ31]
  have HN : Hid ((List.replicate 1 (Value.int .i64 (-1))).length = Nat.min 1 n) := by
    show _ = _
    rw [List.length_replicate]; exact (Nat.min_eq_left hn1).symm
  have HP : Hid (0 < (List.replicate 1 (Value.int .i64 (-1))).length → (some (⟨w.heap.size, 0, none⟩ : Addr) = some ⟨w.heap.size, 0, none⟩) ∧ ∃ ad, (some (⟨b, 0, none⟩ : Addr)) = some ad ∧ ∀ j v, (List.replicate 1 (Value.int .i64 (-1)))[j]? = some v → w2.cell? (ad.add j) = some v) := by
    intro _
    refine ⟨rfl, _, rfl, ?_⟩
    intro j v hj
    match j, hj with
    | 0, hj => cases hj; exact unhide HS
  have HF : Hid (0 + (List.replicate 1 (Value.int .i64 (-1))).length ≤ (repC n 0).length) := by
    show _ ≤ _
    rw [repC_length (Nat.zero_le _)]; simpa using hn1
  have HO : Hid (∀ v ∈ (List.replicate 1 (Value.int .i64 (-1))), v.oneCell' = true) := by
    intro v hv
    cases List.eq_of_mem_replicate hv; rfl
  have HE : Hid (splice (repC n 0) 0 (List.replicate 1 (.int .i64 (-1))) = repC n 1) := repC_splice
  go_wp2_with (show wpList _ _ _ ({ dst := some 33, op := _, type := _, pos := _, after := _, guard := _ } :: _) _ _; refine wpList_copy_splice rfl (.tmp 31) (.tmp 32) 64 64 rfl 3 Tryz.underlying64 (unhide HSZ) _ _ _ _ _ _ rfl rfl w.heap.size 0 (repC n 0) 3 (unhide HG) (List.replicate 1 (.int .i64 (-1))) (unhide HN) (unhide HP) (unhide HF) (unhide HO) w.heap.size w (unhide HB2) (Nat.le_refl _) ?_; intro w3 hg3 hb3; rw [unhide HE] at hg3; have HB3 := hide hb3; clear hb3 HP HS HG HB2 HE)
  go_loopg [8] (n - 1) (fun gk kk wr => ∃ k : Nat, 1 ≤ k ∧ k ≤ n ∧ gk = n - k ∧ kk = .int .i64 (k : Int) ∧ wr.heap[w.heap.size]? = some (.cells (repC n k).toArray 3 (0, 0)) ∧ Below w.heap.size w wr)
  case atStart => exact ⟨1, Nat.le_refl _, hn1, rfl, rfl, hg3, unhide HB3⟩
  case round =>
    obtain ⟨k, hk1, hk, rfl, rfl, hg, hbe⟩ := hrel
    have HG := hide hg
    have HBE := hide hbe
    clear hg hbe
    by_cases hlt : k < n
    · obtain ⟨c, hc⟩ : ∃ c, c = min k (n - k) := ⟨_, rfl⟩
      obtain ⟨X, hX⟩ : ∃ X, X = List.replicate c (Value.int .i64 (-1)) := ⟨_, rfl⟩
      have hcn : k + c ≤ n := by omega
      have hck : c ≤ k := by omega
      have hc1 : 1 ≤ c := by omega
      have HX : Hid (X.length = c) := by
        show _ = _
        rw [hX]; simp
      have HN2 : Hid (X.length = Nat.min k (n - k)) := by
        show _ = _
        rw [unhide HX, hc]
      have HP2 : Hid (0 < X.length → (some (⟨w.heap.size, k, none⟩ : Addr) = some ⟨w.heap.size, k, none⟩) ∧ ∃ ad, (some (⟨w.heap.size, 0, none⟩ : Addr)) = some ad ∧ ∀ j v, X[j]? = some v → wr.cell? (ad.add j) = some v) := by
        intro _
        refine ⟨rfl, _, rfl, ?_⟩
        intro j v hj
        rw [hX, List.getElem?_replicate] at hj
        split at hj
        · cases hj
          rename_i hjc
          have := blk_cell (unhide HG) j
          rw [show (Addr.add ⟨w.heap.size, 0, none⟩ j : Addr) = ⟨w.heap.size, j, none⟩ by simp [Addr.add]; intro h; exact h.symm]
          rw [this]
          simpa using repC_get (n := n) (k := k) (j := j) (by omega)
        · cases hj
      have HF2 : Hid (k + X.length ≤ (repC n k).length) := by
        show _ ≤ _
        rw [repC_length hk, unhide HX]; exact hcn
      have HO2 : Hid (∀ v ∈ X, v.oneCell' = true) := by
        intro v hv
        rw [hX] at hv
        cases List.eq_of_mem_replicate hv; rfl
      have HE2 : Hid (splice (repC n k) k X = repC n (k + c)) := by
        show _ = _
        rw [hX]; exact repC_splice
      have k0 : (0 : Int) ≤ (k : Int) := by omega
      have k1 : (k : Int) ≤ (n : Int) := by omega
      have k2 : (k : Int) < (n : Int) := by omega
      have k3 : ¬ ((k : Int) = (n : Int)) := by omega
      have k4 : ¬ (k = n) := by omega
      clear hc hX HN HF HO
      go_upto_region 9 with fail
      go_region_law (refine step_copy_splice rfl (.tmp 41) (.tmp 44) 64 64 rfl 3 Tryz.underlying64 (unhide HSZ) (some ⟨w.heap.size, k, none⟩) (some ⟨w.heap.size, 0, none⟩) (n - k) (n - k) k n (by simp [Act.eval, Act.put]; omega) (by simp [Act.eval, Act.put]) w.heap.size k (repC n k) 3 (unhide HG) X (unhide HN2) (unhide HP2) (unhide HF2) (unhide HO2) w.heap.size w ((unhide HBE).drew) (Nat.le_refl _) ?_; intro w4 hg4 hb4)
      rw [unhide HE2] at hg4
      have HG4 := hide hg4
      have HB4 := hide hb4
      have hXl := unhide HX
      clear hg4 hb4 HE2 HP2 HF2 HO2 HN2 HX
      rw [hXl]
      clear hXl
      go_wp2_with fail
      go_roundg (n - (k + c))
      case measure => omega
      case rel =>
        have hw : IntKind.i64.wrap ((k : Int) + (c : Int)) = (k : Int) + (c : Int) := IntWalk.i64_in _ ⟨by omega, by omega⟩
        exact ⟨k + c, by omega, hcn, rfl, by rw [hw]; go_num, unhide (unhide HG4), unhide HB4⟩
    · have hkn : k = n := by omega
      subst hkn
      go_wp2_with fail
      go_returns
      exact ⟨rfl, by rw [← repC_full]; exact unhide HG, unhide HBE⟩

end Go.Proofs.YtppcnlkhdgmaiaaGreatDoor
