/- What the document's test of a table's step does: holds, right. Is a step of a table right: right. What the tests of a table's step do: isWrong, fits, in exact worlds. -/
import Derived.Test.YtppcnlkhdgmaiaaDoorCRgE
import Derived.Test.YtppcnlkhdgmaiaaDoorCPlA
import Derived.Test.YtppcnlkhdgmaiaaDoorCRtB
import Derived.Test.YtppcnlkhdgmaiaaDoorCPf
import Derived.Test.YtppcnlkhdgmaiaaDoorCRfP
namespace Go.Proofs.YtppcnlkhdgmaiaaDoor
open Go.RowKit


theorem tssCells_at (l : List Hx.TStp) (j : Nat) (y : Hx.TStp) (h : l[j]? = some y) (t : Nat) (ht : t < 10) : (tssCells l)[j * 10 + t]? = (tsCells y)[t]? := by
  induction l generalizing j with
  | nil => simp at h
  | cons z r ih =>
    have e : tssCells (z :: r) = tsCells z ++ tssCells r := rfl
    rw [e]
    have hl : (tsCells z).length = 10 := rfl
    cases j with
    | zero =>
      simp at h
      subst h
      rw [Nat.zero_mul, Nat.zero_add, List.getElem?_append_left (by omega)]
    | succ j =>
      rw [List.getElem?_append_right (by omega), hl, show (j + 1) * 10 + t - 10 = j * 10 + t by omega]
      exact ih j (by simpa using h)
end Go.Proofs.YtppcnlkhdgmaiaaDoor
namespace Go.Proofs.YtppcnlkhdgmaiaaDoor
open Go.RowKit

theorem Hx.ownRight_no {l : List Hx.TStp} {i : Nat} {y : Hx.TStp} (h : y.no ≠ (Hx.holdF (l.take i) y.pl).2 ∨ y.lo = 0 ∨ y.hi < y.lo ∨ y.mx < y.mn ∨ y.out ≠ (Hx.holdF (l.take i) y.pl).1) : Hx.ownRight l i y = false := by
  unfold Hx.ownRight
  rcases h with h | h | h | h | h <;> simp [h]
theorem Hx.ownRight_yes {l : List Hx.TStp} {i : Nat} {y : Hx.TStp} (h1 : y.no = (Hx.holdF (l.take i) y.pl).2) (h2 : y.lo ≠ 0) (h3 : ¬ y.hi < y.lo) (h4 : ¬ y.mx < y.mn) (h5 : y.out = (Hx.holdF (l.take i) y.pl).1) : Hx.ownRight l i y = true := by
  unfold Hx.ownRight
  simp [← h1, h2, h3, h4, h5]

theorem range_all_succ (f : Nat → Bool) (k : Nat) : (List.range (k + 1)).all f = ((List.range k).all f && f k) := by
  rw [List.range_succ, List.all_append]; simp
theorem range_all_no (k n : Nat) (h : k < n) (f : Nat → Bool) (hf : f k = false) : (List.range n).all f = false := by
  cases hq : (List.range n).all f with
  | false => rfl
  | true =>
    rw [List.all_eq_true] at hq
    rw [hq k (List.mem_range.mpr h)] at hf
    cases hf

end Go.Proofs.YtppcnlkhdgmaiaaDoor
namespace Go.Proofs.YtppcnlkhdgmaiaaDoor
open Go.RowKit

/-- A step, as isWrong takes it: five cells. -/
abbrev stAgg (y : Hx.TStp) : Value := .agg #[.int .i64 (y.lo : Int), .int .i64 (y.hi : Int), .bool y.rest, .int .i64 (y.mn : Int), .int .i64 (y.mx : Int)]

set_option maxHeartbeats 1000000 in
theorem wrong_exact (y : Hx.TStp) (bw : Bool) (w : World) (hw : Hx.wrongB 10 ⟨y.lo, y.hi, y.rest, y.mn, y.mx⟩ = bw) :
    Calls Tryd.prog 67 #[stAgg y, .int .i64 10] w fun e w' => e = .returned (.bool bw) ∧ w' = w.alloc (.cells #[.int .i64 (y.lo : Int), .int .i64 (y.hi : Int), .bool y.rest, .int .i64 (y.mn : Int), .int .i64 (y.mx : Int)] 81) := by
  obtain ⟨ypl, yno, lo, hi, rest, mn, mx, tt, out, inn⟩ := y
  simp only at hw ⊢
  by_cases h1 : lo = 0
  · have e : Hid (true = bw) := by show _ = _; rw [← hw]; simp [Hx.wrongB, h1]
    have h1' : ((lo : Int) == 0) = true := by simp [h1]
    clear h1 hw
    go_enter Tryd.func67, Tryd.ntmps67
    go_wp2
    go_returns
    exact ⟨by rw [← unhide e]; rfl, rfl⟩
  · have h1' : ((lo : Int) == 0) = false := by simp; omega
    by_cases h2 : hi < lo
    · have e : Hid (true = bw) := by show _ = _; rw [← hw]; simp [Hx.wrongB, h2]
      have h2' : (hi : Int) < (lo : Int) := by omega
      clear h1 h2 hw
      go_enter Tryd.func67, Tryd.ntmps67
      go_wp2
      go_returns
      exact ⟨by rw [← unhide e]; rfl, rfl⟩
    · have h2' : ¬ (hi : Int) < (lo : Int) := by omega
      cases rest
      · have e : Hid (false = bw) := by show _ = _; rw [← hw]; simp [Hx.wrongB]; omega
        clear h1 h2 hw
        go_enter Tryd.func67, Tryd.ntmps67
        go_wp2
        go_returns
        exact ⟨by rw [← unhide e]; rfl, rfl⟩
      · have e : Hid (decide (mx < mn) = bw) := by
          show _ = _
          have e1 : (lo == 0) = false := by simp; omega
          have e2 : decide (hi < lo) = false := by simp; omega
          rw [← hw]
          simp [Hx.wrongB, e1, e2]
        clear h1 h2 hw
        go_enter Tryd.func67, Tryd.ntmps67
        go_wp2
        go_returns
        exact ⟨by rw [← unhide e]; simp, rfl⟩

/-- The block that fits takes its step into. -/
abbrev ptBlk (y : Hx.TStp) : Obj := .cells #[.int .i64 (y.lo : Int), .int .i64 (y.hi : Int), .bool y.rest, .int .i64 (y.mn : Int), .int .i64 (y.mx : Int), .int .i64 (y.pl : Int), .int .i64 (y.no : Int), .bool (decide (0 ≤ y.inn)), .int .i64 (y.t : Int), .int .i64 y.out, .int .i64 y.inn] 153

theorem fits_no {zs : List Int} {y : Hx.TStp} {k : Nat} (hk : k < zs.length) (h : Hx.clashL zs y k = true) : Hx.tfitF zs y = false := by
  rw [Hx.tfitF, range_all_no k zs.length hk _ (by rw [h]; rfl), Bool.and_false]

set_option maxRecDepth 100000 in
set_option maxHeartbeats 2000000 in
theorem fits_exact (y : Hx.TStp) (g c : Nat) (zs : List Int) (w : World) (hz : zs.length = 4) (hp : y.pl < 4) (bf : Bool) (hf : Hx.tfitF zs y = bf) (hc : ∀ j, j < 4 → w.cell? ⟨g, j, none⟩ = some (.int .i64 (zs.getD j 0))) :
    Calls Tryd.prog 79 #[ptAgg y, .slice (some ⟨g, 0, none⟩) 4 c] w fun e w' => e = .returned (.bool bf) ∧ ∃ n, w' = (w.alloc (ptBlk y)).drewN n := by
  obtain ⟨z, hzz⟩ : ∃ z, z = zs.getD y.pl 0 := ⟨_, rfl⟩
  have cp : ∀ o, (w.alloc o).cell? ⟨g, y.pl, none⟩ = some (.int .i64 z) := fun o => by rw [hzz]; exact (grown_alloc w o none).cell (hc y.pl hp) (by simp)
  have HZZ := hide hzz
  have hpI : (y.pl : Int) < 4 := by omega
  have HC := hide hc
  have HF := hide hf
  have HZ := hide hz
  clear hc hf hz hzz
  go_enter Tryd.func79, Tryd.ntmps79
  by_cases ho : y.out = z
  · have ho' : (y.out != z) = false := by rw [bne_eq_false_iff_eq]; exact ho
    have HO := hide ho
    clear ho
    go_wp2_with fail
    go_quiet (fail)
    go_wp2_with fail
    go_loopg [18] 4 (fun gk kk wr => ∃ k : Nat, k ≤ 4 ∧ gk = 4 - k ∧ kk = .int .i64 (k : Int) ∧ (∀ a, a < k → Hx.clashL zs y a = false) ∧ ∃ n, wr = (w.alloc (ptBlk y)).drewN n)
    case atStart => exact ⟨0, by omega, rfl, rfl, fun a h => absurd h (Nat.not_lt_zero a), _, rfl⟩
    case round =>
      obtain ⟨k, hk, rfl, rfl, hall, n, rfl⟩ := hrel
      have HALL := hide hall
      clear hall
      by_cases hlt : k < 4
      · obtain ⟨v, hv⟩ : ∃ v, v = zs.getD k 0 := ⟨_, rfl⟩
        have ck : ∀ o, (w.alloc o).cell? ⟨g, k, none⟩ = some (.int .i64 v) := fun o => by rw [hv]; exact (grown_alloc w o none).cell (unhide HC k hlt) (by simp)
        have HV := hide hv
        have hkI : (k : Int) < 4 := by omega
        clear hv
        by_cases h1 : k = y.pl
        · have h1' : ((k : Int) != (y.pl : Int)) = false := by simp [h1]
          have HN : Hid (∀ a, a < k + 1 → Hx.clashL zs y a = false) := fun a ha => by
            by_cases e : a = k
            · subst e; simp [Hx.clashL, h1]
            · exact unhide HALL a (by omega)
          clear h1
          go_wp2_with fail
          go_roundg (4 - (k + 1))
          case measure => omega
          case rel => exact ⟨k + 1, by omega, rfl, by go_num, unhide HN, _, rfl⟩
        · have h1' : ((k : Int) != (y.pl : Int)) = true := by simp; omega
          by_cases h2 : 0 ≤ y.inn
          · have h2' : decide (0 ≤ y.inn) = true := by simpa using h2
            by_cases h3 : v = y.inn
            · have h3' : (v == y.inn) = true := by simpa using h3
              have HE : Hid (false = bf) := by
                show _ = _
                rw [← unhide HF]
                refine (fits_no (k := k) (by rw [unhide HZ]; exact hlt) ?_).symm
                simp only [Hx.clashL]
                rw [← unhide HV, h3', h2', beq_eq_false_iff_ne.2 h1]; rfl
              clear h1 h2 h3
              go_wp2_with fail
              go_returns
              exact ⟨by rw [← unhide HE]; rfl, _, rfl⟩
            · have h3' : (v == y.inn) = false := by simpa using h3
              have HN : Hid (∀ a, a < k + 1 → Hx.clashL zs y a = false) := fun a ha => by
                by_cases e : a = k
                · subst e; simp only [Hx.clashL]; rw [← unhide HV, h3', Bool.and_false, Bool.and_false]
                · exact unhide HALL a (by omega)
              clear h1 h2 h3
              go_wp2_with fail
              go_roundg (4 - (k + 1))
              case measure => omega
              case rel => exact ⟨k + 1, by omega, rfl, by go_num, unhide HN, _, rfl⟩
          · have h2' : decide (0 ≤ y.inn) = false := by simpa using h2
            have HN : Hid (∀ a, a < k + 1 → Hx.clashL zs y a = false) := fun a ha => by
              by_cases e : a = k
              · subst e; simp only [Hx.clashL]; rw [h2', Bool.false_and, Bool.and_false]
              · exact unhide HALL a (by omega)
            clear h1 h2
            go_wp2_with fail
            go_roundg (4 - (k + 1))
            case measure => omega
            case rel => exact ⟨k + 1, by omega, rfl, by go_num, unhide HN, _, rfl⟩
      · have HE : Hid (true = bf) := by
          show _ = _
          rw [← unhide HF, Hx.tfitF, ← unhide HZZ, unhide HO, unhide HZ]
          simp only [beq_self_eq_true, Bool.true_and]
          symm
          rw [List.all_eq_true]
          intro a ha
          have := List.mem_range.1 ha
          rw [unhide HALL a (by omega)]; rfl
        have hkI : ¬ (k : Int) < 4 := by omega
        go_wp2_with fail
        go_returns
        exact ⟨by rw [← unhide HE]; rfl, _, rfl⟩
  · have ho' : (y.out != z) = true := by rw [bne_iff_ne]; exact ho
    have HE : Hid (false = bf) := by
      show _ = _
      rw [← unhide HF, Hx.tfitF, ← unhide HZZ, beq_eq_false_iff_ne.2 ho, Bool.false_and]
    clear ho
    go_wp2_with fail
    go_quiet (fail)
    go_wp2_with fail
    go_returns
    exact ⟨by rw [← unhide HE]; rfl, _, rfl⟩

end Go.Proofs.YtppcnlkhdgmaiaaDoor
