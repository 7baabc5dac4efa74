/- hatchkeep's ran: the document's two examples of Run; what Onward answers. What nextTurns does: the turns that may stand behind what is done, the least first. -/
import Derived.Test.YtppcnlkhdgmaiaaDoorCScA
import Derived.Test.YtppcnlkhdgmaiaaDoorCKeA
import Derived.Test.YtppcnlkhdgmaiaaDoorCPlU
import Derived.Deep.RegionHeld3
import Derived.IntWalk
namespace Go.Proofs.YtppcnlkhdgmaiaaDoor
open Go.RowKit

theorem Hx.wrongF_zero {l : List Hx.TStp} (n : Nat) : ∀ k, l.length - k = n → (Hx.wrongF l k).1 = 0 → Hx.wrongF l k = (0, 0) := by
  induction n with
  | zero =>
    intro k hk h
    rw [Hx.wrongF, if_neg (by omega)]
  | succ n ih =>
    intro k hk h
    rw [Hx.wrongF, if_pos (by omega)] at h ⊢
    split at h
    · rename_i g
      rw [if_pos g]
      exact ih (k + 1) (by omega) h
    · simp at h
/-- What is known of a Run without an error. -/
theorem Hx.run_zero {s t : ByteArray} (h : (Hx.refRunF s t).2 = 0) :
    s.size ≤ 400 ∧ t.size ≤ 800 ∧ Hx.scrOk t = true ∧ (Hx.tableF s).1.bad = false ∧ Hx.Right (Hx.tableF s).2 ∧ (Hx.refRunF s t).1 = Hx.tellF (Hx.tableF s).2 (Hx.machF (Hx.tableF s).2 (Hx.theadF s).1 (Hx.scr1 t).1 (Hx.scr2 t).1) := by
  unfold Hx.refRunF at h ⊢
  split at h
  · simp at h
  · rename_i g1
    rw [if_neg g1]
    split at h
    · rename_i g2; exact absurd h g2
    · rename_i g2
      rw [if_neg g2]
      split at h
      · simp at h
      · rename_i g3
        rw [if_neg g3]
        have hl : (Hx.lookF s).1 = 0 := by
          rcases Int.instDecidableEq (Hx.lookF s).1 0 with g | g
          · exact absurd g g2
          · exact g
        unfold Hx.lookF at hl
        rw [if_neg (by omega)] at hl
        split at hl
        · simp at hl
        · rename_i g4
          have hr : Hx.Right (Hx.tableF s).2 := Hx.right_of (Hx.wrongF_zero _ 0 rfl hl)
          refine ⟨by omega, by omega, by simpa using g3, by simpa using g4, hr, ?_⟩
          rw [Hx.machine_is hr]
          rfl
/-- What Onward asks. -/
theorem Hx.onward {s c m k : ByteArray} (h1 : (Hx.refRunF s (c ++ ⟨#[47]⟩ ++ k)).2 = 0) (h2 : (Hx.refRunF s (c ++ ⟨#[44]⟩ ++ m ++ ⟨#[47]⟩ ++ k)).2 = 0) :
    ((Hx.cutF (Hx.refRunF s (c ++ ⟨#[47]⟩ ++ k)).1).1 ≠ [111, 112, 101, 110] → (Hx.refRunF s (c ++ ⟨#[47]⟩ ++ k)).1 = (Hx.refRunF s (c ++ ⟨#[44]⟩ ++ m ++ ⟨#[47]⟩ ++ k)).1) ∧
    (Hx.cutF (Hx.refRunF s (c ++ ⟨#[47]⟩ ++ k)).1).2 <+: (Hx.cutF (Hx.refRunF s (c ++ ⟨#[44]⟩ ++ m ++ ⟨#[47]⟩ ++ k)).1).2 := by
  obtain ⟨_, _, a3, _, a5, a6⟩ := Hx.run_zero h1
  obtain ⟨_, _, b3, _, _, b6⟩ := Hx.run_zero h2
  obtain ⟨⟨M, hM⟩, hT⟩ := Hx.longer_texts c m k a3 b3
  rw [a6, b6, hM, ← hT]
  exact Hx.onward_tell a5.ok _ _ M _

theorem Hx.told_len (s t : ByteArray) : (Hx.refRunF s t).1.length ≤ 1000000 := by
  by_cases h : (Hx.refRunF s t).2 = 0
  · obtain ⟨h1, h2, _, _, _, h6⟩ := Hx.run_zero h
    have c1 := Hx.numbersF_count (s := t) (c := 47) (st := ⟨0, false⟩)
    have c2 := sum_le_mul (Hx.scr1 t).1 (fun v hv => Hx.numbersF_lt v hv)
    have c3 : (Hx.scr1 t).1.length ≤ t.size + 1 := c1
    have lk := mach_lk (l := (Hx.tableF s).2) (J := (Hx.theadF s).1) (clock := (Hx.scr1 t).1) (takes := (Hx.scr2 t).1) (fun v hv => Hx.numbersF_lt v hv) (by omega)
    have e1 := evB_len (Hx.tableF s).2 (Hx.machF (Hx.tableF s).2 (Hx.theadF s).1 (Hx.scr1 t).1 (Hx.scr2 t).1).2.sts lk.st
    have e2 := lk.len
    have e3 := Hx.tableF_len s
    have e4 := outB_len (Hx.machF (Hx.tableF s).2 (Hx.theadF s).1 (Hx.scr1 t).1 (Hx.scr2 t).1).1
    rw [h6, Hx.tellF_head, List.length_append, List.length_cons]
    have e5 : (Hx.headB (Hx.tableF s).2 (Hx.machF (Hx.tableF s).2 (Hx.theadF s).1 (Hx.scr1 t).1 (Hx.scr2 t).1)).length ≤ 9 := by
      unfold Hx.headB
      rw [List.length_append]
      have : (if 2 ≤ (Hx.machF (Hx.tableF s).2 (Hx.theadF s).1 (Hx.scr1 t).1 (Hx.scr2 t).1).1 then [32] ++ Hx.nameAt (Hx.tableF s).2 (Hx.machF (Hx.tableF s).2 (Hx.theadF s).1 (Hx.scr1 t).1 (Hx.scr2 t).1).2.k else []).length ≤ 3 := by
        split
        · unfold Hx.nameAt
          split <;> simp [Hx.nmB]
        · simp
      omega
    omega
  · unfold Hx.refRunF at h ⊢
    split
    · simp
    · rename_i g1
      rw [if_neg g1] at h
      split
      · simp
      · rename_i g2
        rw [if_neg g2] at h
        split
        · simp
        · rename_i g3
          rw [if_neg g3] at h
          exact absurd rfl h
abbrev smpB : ByteArray := ⟨#[106, 49, 59, 97, 48, 64, 48, 43, 50, 45, 51, 62, 48, 59, 98, 48, 64, 52, 43, 49, 45, 49, 59, 97, 49, 64, 57, 43, 52, 45, 52, 60, 48, 58, 53, 45, 57]⟩
abbrev scrB1 : ByteArray := ⟨#[50, 44, 50, 44, 50, 44, 50, 44, 50, 44, 50, 44, 50, 44, 50, 47, 51, 44, 49, 44, 52]⟩
abbrev scrB2 : ByteArray := ⟨#[51, 44, 51, 44, 51, 47, 50, 44, 49, 44, 52]⟩
set_option maxRecDepth 100000 in
theorem Hx.ran1 : Hx.refRunF smpB scrB1 = ([100, 111, 110, 101, 59, 97, 48, 58, 48, 45, 51, 44, 98, 48, 58, 52, 45, 53, 44, 97, 49, 58, 49, 48, 45, 49, 52], 0) := by decide +kernel
set_option maxRecDepth 100000 in
theorem Hx.ran2 : Hx.refRunF smpB scrB2 = ([108, 97, 116, 101, 32, 98, 48, 59, 97, 48, 58, 48, 45, 50], 0) := by decide +kernel

theorem run_ex1 (w : World) (h : RunE w) : Calls Tryd.prog 27 #[.string smpB, .string scrB1] w fun e w' => e = .returned (.tuple #[.string ⟨#[100, 111, 110, 101, 59, 97, 48, 58, 48, 45, 51, 44, 98, 48, 58, 52, 45, 53, 44, 97, 49, 58, 49, 48, 45, 49, 52]⟩, .int .i64 0]) ∧ Below w.heap.size w w' := by
  have := run_any smpB scrB1 w (by decide) (by decide) h.1 h.2.1 h.2.2
  rw [Hx.ran1] at this
  exact this
theorem run_ex2 (w : World) (h : RunE w) : Calls Tryd.prog 27 #[.string smpB, .string scrB2] w fun e w' => e = .returned (.tuple #[.string ⟨#[108, 97, 116, 101, 32, 98, 48, 59, 97, 48, 58, 48, 45, 50]⟩, .int .i64 0]) ∧ Below w.heap.size w w' := by
  have := run_any smpB scrB2 w (by decide) (by decide) h.1 h.2.1 h.2.2
  rw [Hx.ran2] at this
  exact this

set_option maxRecDepth 100000 in
set_option maxHeartbeats 1000000 in
theorem ran_any (w : World) (h : RunE w) : Calls Tryd.prog 26 #[] w fun e w' => e = .returned (.bool true) ∧ Below w.heap.size w w' := by
  have HR1 := hide (run_ex1 w h)
  have HE := hide h
  clear h
  go_enter Tryd.func26, Tryd.ntmps26
  go_wp2_with fail
  refine (unhide HR1).mono ?_
  rintro e w1 ⟨rfl, hb1⟩
  have HE1 := hide (lasts_run _ _ (unhide HE) hb1)
  have HB1 := hide hb1
  clear hb1
  go_wp2_with fail
  refine (run_ex2 w1 (unhide HE1)).mono ?_
  rintro e w2 ⟨rfl, hb2⟩
  have HB2 := hide ((unhide HB1).trans (hb2.mono (unhide HB1).size))
  clear hb2
  go_wp2_with fail
  go_returns
  exact ⟨rfl, unhide HB2⟩

set_option maxRecDepth 100000 in
set_option maxHeartbeats 4000000 in
theorem onward_any (s c m k : ByteArray) (w : World) (hs : s.size ≤ reachBytes) (hc : c.size ≤ reachBytes) (hm : m.size ≤ reachBytes) (hk : k.size ≤ reachBytes) (hE : RunE w) :
    Calls Tryd.prog 9 #[.string s, .string c, .string m, .string k] w fun e w' => e = .returned (.bool true) ∧ Below w.heap.size w w' := by
  unfold reachBytes at hs hc hm hk
  obtain ⟨A, hA⟩ : ∃ A, A = Hx.refRunF s (c ++ ⟨#[47]⟩ ++ k) := ⟨_, rfl⟩
  obtain ⟨B, hB⟩ : ∃ B, B = Hx.refRunF s (c ++ ⟨#[44]⟩ ++ m ++ ⟨#[47]⟩ ++ k) := ⟨_, rfl⟩
  have z1 : (⟨#[47]⟩ : ByteArray).size = 1 := rfl
  have z2 : (⟨#[44]⟩ : ByteArray).size = 1 := rfl
  have hA1 : (c ++ ⟨#[47]⟩ ++ k : ByteArray).size ≤ maxLen := by unfold maxLen; rw [ByteArray.size_append, ByteArray.size_append, z1]; omega
  have hB1 : (c ++ ⟨#[44]⟩ ++ m ++ ⟨#[47]⟩ ++ k : ByteArray).size ≤ maxLen := by unfold maxLen; rw [ByteArray.size_append, ByteArray.size_append, ByteArray.size_append, ByteArray.size_append, z1, z2]; omega
  have HRA : Hid (∀ w', RunE w' → Calls Tryd.prog 27 #[.string s, .string (c ++ ⟨#[47]⟩ ++ k)] w' fun e w2 => e = .returned (.tuple #[.string ⟨A.1.toArray⟩, .int .i64 A.2]) ∧ Below w'.heap.size w' w2) := by
    intro w' h; rw [hA]; exact run_any _ _ w' (by unfold maxLen; omega) hA1 h.1 h.2.1 h.2.2
  have HRB : Hid (∀ w', RunE w' → Calls Tryd.prog 27 #[.string s, .string (c ++ ⟨#[44]⟩ ++ m ++ ⟨#[47]⟩ ++ k)] w' fun e w2 => e = .returned (.tuple #[.string ⟨B.1.toArray⟩, .int .i64 B.2]) ∧ Below w'.heap.size w' w2) := by
    intro w' h; rw [hB]; exact run_any _ _ w' (by unfold maxLen; omega) hB1 h.1 h.2.1 h.2.2
  have HON : Hid (A.2 = 0 → B.2 = 0 → ((Hx.cutF A.1).1 ≠ [111, 112, 101, 110] → A.1 = B.1) ∧ (Hx.cutF A.1).2 <+: (Hx.cutF B.1).2) := by
    intro h1 h2
    rw [hA] at h1
    rw [hB] at h2
    rw [hA, hB]
    exact Hx.onward h1 h2
  have HLA : Hid (A.1.length ≤ 1000000) := by show _ ≤ _; rw [hA]; exact Hx.told_len _ _
  have HLB : Hid (B.1.length ≤ 1000000) := by show _ ≤ _; rw [hB]; exact Hx.told_len _ _
  clear hA hB hA1 hB1 z1 z2
  have HR0 := hide (ran_any w hE)
  have HE := hide hE
  clear hE
  have n1 : ¬ 9223372036854775807 < c.size + 1 := by omega
  have n2 : ¬ 9223372036854775807 < c.size + 1 + k.size := by omega
  have n3 : ¬ 9223372036854775807 < c.size + 1 + m.size := by omega
  have n4 : ¬ 9223372036854775807 < c.size + 1 + m.size + 1 := by omega
  have n5 : ¬ 9223372036854775807 < c.size + 1 + m.size + 1 + k.size := by omega
  go_enter Tryd.func9, Tryd.ntmps9
  go_wp2_with fail
  refine (unhide HR0).mono ?_
  rintro e w1 ⟨rfl, hb1⟩
  have HE1 := hide (lasts_run _ _ (unhide HE) hb1)
  have HB1 := hide hb1
  clear hb1
  go_wp2_with fail
  refine (unhide HRA w1 (unhide HE1)).mono ?_
  rintro e w2 ⟨rfl, hb2⟩
  have HE2 := hide (lasts_run _ _ (unhide HE1) hb2)
  have HB2 := hide ((unhide HB1).trans (hb2.mono (unhide HB1).size))
  clear hb2
  go_wp2_with fail
  refine (unhide HRB w2 (unhide HE2)).mono ?_
  rintro e w3 ⟨rfl, hb3⟩
  have HB3 := hide ((unhide HB2).trans (hb3.mono (unhide HB2).size))
  clear hb3 HRA HRB HR0 HE HE1 HE2 HB1 HB2
  obtain ⟨a1, a2⟩ := A
  obtain ⟨b1, b2⟩ := B
  simp only at HON HLA HLB ⊢
  by_cases ha : a2 = 0
  · subst ha
    by_cases hb : b2 = 0
    · subst hb
      obtain ⟨o1, o2⟩ := unhide HON rfl rfl
      clear HON
      go_wp2_with fail
      refine (cut_any ⟨a1.toArray⟩ w3 (Nat.le_trans (unhide HLA) (by omega))).mono ?_
      rintro e w4 ⟨rfl, n, hw4⟩
      have HB4 : Hid (Below w.heap.size w w4) := by rw [hw4]; exact below_drewN (unhide HB3) n
      clear hw4
      go_wp2_with fail
      refine (cut_any ⟨b1.toArray⟩ w4 (Nat.le_trans (unhide HLB) (by omega))).mono ?_
      rintro e w5 ⟨rfl, n5', hw5⟩
      have HB5 : Hid (Below w.heap.size w w5) := by rw [hw5]; exact below_drewN (unhide HB4) n5'
      clear hw5
      have hda : (⟨a1.toArray⟩ : ByteArray).data.toList = a1 := by simp
      have hdb : (⟨b1.toArray⟩ : ByteArray).data.toList = b1 := by simp
      rw [hdb]
      obtain ⟨how, rest, hca⟩ : ∃ how rest, Hx.cutF a1 = (how, rest) := ⟨_, _, rfl⟩
      obtain ⟨how2, aft, hcb⟩ : ∃ how rest, Hx.cutF b1 = (how, rest) := ⟨_, _, rfl⟩
      rw [hca, hcb] at o2
      rw [hca] at o1
      rw [hca, hcb]
      simp only at o1 o2 ⊢
      clear hda hdb hca hcb
      by_cases hop : how = [111, 112, 101, 110]
      · subst hop
        clear o1
        have hle : rest.length ≤ aft.length := o2.length_le
        have hex : ((⟨aft.toArray⟩ : ByteArray).extract 0 rest.length).toList == rest := by
          obtain ⟨z, rfl⟩ := o2
          have e1 : (⟨(rest ++ z).toArray⟩ : ByteArray).extract 0 rest.length = ⟨rest.toArray⟩ := by
            apply ByteArray.ext
            rw [ByteArray.data_extract]
            apply Array.ext'
            simp
          rw [e1]
          simp
        have HOK := hide o2
        clear o2
        go_wp2_with fail
        go_returns
        exact ⟨rfl, unhide HB5⟩
      · have HEQ := o1 hop
        subst HEQ
        clear o1 o2
        have hno : (!how == [111, 112, 101, 110]) = true := by simpa using hop
        clear hop
        go_wp2_with fail
        go_returns
        exact ⟨rfl, unhide HB5⟩
    · have hbI : (b2 != 0) = true := by simpa using hb
      clear HON hb
      go_wp2_with fail
      go_returns
      exact ⟨rfl, unhide HB3⟩
  · have haI : (a2 != 0) = true := by simpa using ha
    clear HON ha
    go_wp2_with fail
    go_returns
    exact ⟨rfl, unhide HB3⟩

end Go.Proofs.YtppcnlkhdgmaiaaDoor
namespace Go.Proofs.YtppcnlkhdgmaiaaDoor
open Go.RowKit

def trnsCells (l : List Hx.Trn) : List Value := l.flatMap trnCells
theorem trnsCells_snoc (l : List Hx.Trn) (t : Hx.Trn) : trnsCells (l ++ [t]) = trnsCells l ++ trnCells t := by simp [trnsCells]
theorem trnsCells_at (l : List Hx.Trn) (j : Nat) (t : Hx.Trn) (h : l[j]? = some t) (i : Nat) (hi : i < 8) : (trnsCells l)[j * 8 + i]? = (trnCells t)[i]? := by
  induction l generalizing j with
  | nil => simp at h
  | cons z r ih =>
    have e : trnsCells (z :: r) = trnCells z ++ trnsCells r := rfl
    rw [e]
    have hl : (trnCells z).length = 8 := rfl
    cases j with
    | zero =>
      simp at h
      subst h
      rw [Nat.zero_mul, Nat.zero_add, List.getElem?_append_left (by omega)]
    | succ j =>
      rw [List.getElem?_append_right (by omega), hl, show (j + 1) * 8 + i - 8 = j * 8 + i by omega]
      exact ih j (by simpa using h)
theorem trnCells_one (t : Hx.Trn) : ∀ u ∈ trnCells t, u.oneCell' = true := by
  intro u hu
  simp [trnCells] at hu
  rcases hu with rfl | rfl | rfl | rfl | rfl | rfl | rfl | rfl <;> rfl
/-- A slice of turns, as it lies. -/
abbrev Trns (w : World) (base : Nat) (v : Value) (l : List Hx.Trn) : Prop := w.ownsRow base 83 8 v l.length (trnsCells l)
theorem Tryd.info83 : (Tryd.prog.info? 83).map (fun i => (i.zero, i.size, i.bytes)) = some (some (.agg #[.int .i64 0, .int .i64 0, .bool false, .int .i64 0, .int .i64 0, .int .i64 0, .int .i64 0, .bool false]), 8, 64) := by kernel_rfl
/-- A slice of numbers, as it lies. -/
def natCells (n : Nat) (f : Nat → Nat) : List Value := (List.range n).map fun p => .int .i64 (f p : Int)
theorem natCells_at {n : Nat} {f : Nat → Nat} {p : Nat} (h : p < n) : (natCells n f)[p]? = some (.int .i64 (f p : Int)) := by simp [natCells, h]

theorem nextUp {K : Nat} {ps : List (List Hx.Stp)} {r : Int} {nx : Nat → Nat} (k : Nat) : (List.range (k + 1)).filterMap (Hx.nextAt K ps r nx) = (List.range k).filterMap (Hx.nextAt K ps r nx) ++ (Hx.nextAt K ps r nx k).toList := by
  rw [List.range_succ, List.filterMap_append]
  cases h : Hx.nextAt K ps r nx k <;> simp [h]
theorem nextUp_len {K : Nat} {ps : List (List Hx.Stp)} {r : Int} {nx : Nat → Nat} (k : Nat) : ((List.range k).filterMap (Hx.nextAt K ps r nx)).length ≤ k := by
  have := List.length_filterMap_le (Hx.nextAt K ps r nx) (List.range k)
  simpa using this

set_option maxRecDepth 100000 in
set_option maxHeartbeats 4000000 in
theorem next_any (J K D : Nat) (v dv : Value) (base : Nat) (ps : List (List Hx.Stp)) (r : Int) (nx : Nat → Nat) (w : World) (hps : Plts w base v ps) (hn : 0 < ps.length) (hl : ps.length ≤ 121) (hf : Hx.Fine ps)
    (hd : w.ownsRow 0 3 1 dv ps.length (natCells ps.length nx)) (hle : ∀ p, p < ps.length → nx p ≤ Hx.lenP ps p) (hr1 : -1000 ≤ r) (hr2 : r ≤ 1000) :
    Calls Tryd.prog 69 #[.agg #[.int .i64 (J : Int), .int .i64 (K : Int), .int .i64 (D : Int), v], dv, .int .i64 r] w fun e w' => ∃ nv, e = .returned nv ∧ Trns w' w.heap.size nv (Hx.nxtF K ps r nx) ∧ Below w.heap.size w w' := by
  have HPS := hide hps
  have HF := hide hf
  have HLE := hide hle
  have HD := hide hd
  obtain ⟨g, cap, rfl, hg⟩ : ∃ g cap, v = .slice (some ⟨g, 0, none⟩) ps.length cap ∧ g < w.heap.size := by
    obtain ⟨vs, hvs, hpp⟩ := hps
    obtain ⟨g, cap, e, _, hg⟩ := own_pos hvs hn
    exact ⟨g, cap, e, hg⟩
  obtain ⟨gd, capd, rfl, _, hgd⟩ := own_pos hd hn
  obtain ⟨i0, hi, hz0, hz1, hz2⟩ := info_parts Tryd.info83
  have HI := hide hi
  have HZ0 := hide hz0
  have HZ1 := hide hz1
  have HZ2 := hide hz2
  clear hps hf hle hd hi hz0 hz1 hz2
  go_enter Tryd.func69, Tryd.ntmps69
  go_wp2_with fail
  go_loopg [7, 14] ps.length (fun gk out i wr => ∃ (k : Nat) (l : List Hx.Trn), k ≤ ps.length ∧ gk = ps.length - k ∧ i = .int .i64 (k : Int) ∧ l = (List.range k).filterMap (Hx.nextAt K ps r nx) ∧ Trns wr w.heap.size out l ∧ Below w.heap.size w wr ∧ wr.heap[w.heap.size]? = some (.cells #[.int .i64 (J : Int), .int .i64 (K : Int), .int .i64 (D : Int), .slice (some ⟨g, 0, none⟩) ps.length cap] 75 (0, 0)))
  case atStart => exact ⟨0, [], Nat.zero_le _, rfl, rfl, rfl, World.ownsRow_nil _ _ _ _, belA _ (Below.refl _ _), blk_new _ _ _⟩
  case round =>
    obtain ⟨k, l, hk, rfl, rfl, hls, hrow, hbe, hbox⟩ := hrel
    obtain ⟨ao, capo, rfl⟩ := own_form hrow
    have hll : l.length ≤ k := by rw [hls]; exact nextUp_len k
    have HLS := hide hls
    have HROW := hide hrow
    have HBE := hide hbe
    have HBOX := hide hbox
    clear hls hrow hbe hbox
    by_cases hlt : k < ps.length
    · obtain ⟨p, hp⟩ : ∃ p, ps[k]? = some p := ⟨ps[k], List.getElem?_eq_getElem hlt⟩
      obtain ⟨x0, r0, ep, hx0⟩ := unhide HF k p hp
      have hp0 : 0 < p.length := by rw [ep]; simp
      obtain ⟨g', cap', g2, cap2, e', _, _, hg2, _, hc, hq121, _⟩ := (unhide HPS).plate hp hp0
      cases e'
      have hnk : nx k ≤ p.length := by have := unhide HLE k hlt; rwa [Hx.lenP_eq hp] at this
      have cP : wr.cell? ⟨g, k, none⟩ = some (.slice (some ⟨g2, 0, none⟩) p.length cap2) := by
        rw [(unhide HBE).cell (p := ⟨g, k, none⟩) hg]; exact hc
      have cD' : wr.cell? ⟨gd, k, none⟩ = some (.int .i64 (nx k : Int)) := by
        rw [(unhide HBE).cell (p := ⟨gd, k, none⟩) hgd, (unhide HD).cellAt k (by omega)]; exact natCells_at hlt
      have HP := hide hp
      clear hp hc ep hx0
      by_cases hfull : nx k = p.length
      · have hnone : Hid (Hx.nextAt K ps r nx k = none) := by
          show _ = _
          have : Hx.turnAt ps k (nx k) = none := by simp [Hx.turnAt, unhide HP, List.getElem?_eq_none (show p.length ≤ nx k by omega)]
          simp [Hx.nextAt, this]
        have hfe : ((nx k : Int) == (p.length : Int)) = true := by simp; omega
        go_wp2_with fail
        go_roundg (ps.length - (k + 1))
        case measure => omega
        case rel => exact ⟨k + 1, l, by omega, rfl, by go_num, by rw [nextUp, unhide hnone, unhide HLS]; simp, unhide HROW, unhide HBE, unhide HBOX⟩
      · have hfe : ((nx k : Int) == (p.length : Int)) = false := by simp; omega
        obtain ⟨t, ht⟩ : ∃ t, Hx.turnAt ps k (nx k) = some t := ⟨⟨p[nx k], k, nx k, Hx.begB p (nx k)⟩, by simp [Hx.turnAt, unhide HP, List.getElem?_eq_getElem (show nx k < p.length by omega)]⟩
        have HTT := hide ht
        have j0 : wr.cell? ⟨w.heap.size, 0, none⟩ = some (.int .i64 (J : Int)) := blk_cell (unhide HBOX) 0
        have j1 : wr.cell? ⟨w.heap.size, 1, none⟩ = some (.int .i64 (K : Int)) := blk_cell (unhide HBOX) 1
        have j2 : wr.cell? ⟨w.heap.size, 2, none⟩ = some (.int .i64 (D : Int)) := blk_cell (unhide HBOX) 2
        have j3 : wr.cell? ⟨w.heap.size, 3, none⟩ = some (.slice (some ⟨g, 0, none⟩) ps.length cap) := blk_cell (unhide HBOX) 3
        have hk0 : (0 : Int) ≤ (k : Int) := by omega
        have hkI : (k : Int) < (ps.length : Int) := by omega
        have HPSr : Hid (Plts wr base (.slice (some ⟨g, 0, none⟩) ps.length cap) ps) := (unhide HPS).below (unhide HBE)
        clear ht
        go_upto_region 6 with fail
        go_cut [10] (fun s10 wc => ∃ tb, s10 = .pointer (some ⟨tb, 0, none⟩) ∧ wc.heap[tb]? = some (.cells #[.int .i64 (t.x.lo : Int), .int .i64 (t.x.hi : Int), .bool t.x.rest, .int .i64 (t.x.mn : Int), .int .i64 (t.x.mx : Int), .int .i64 (t.pl : Int), .int .i64 (t.no : Int), .bool t.beg] 83 (0, 0)) ∧ Below wr.heap.size wr wc)
        case first =>
          go_region_held3 (fun w' => w'.cell? ⟨w.heap.size, 0, none⟩ = some (.int .i64 (J : Int)) ∧ w'.cell? ⟨w.heap.size, 1, none⟩ = some (.int .i64 (K : Int)) ∧ w'.cell? ⟨w.heap.size, 2, none⟩ = some (.int .i64 (D : Int)) ∧ w'.cell? ⟨w.heap.size, 3, none⟩ = some (.slice (some ⟨g, 0, none⟩) ps.length cap) ∧ w'.cell? ⟨gd, k, none⟩ = some (.int .i64 (nx k : Int))) (refine ⟨?_, ?_, ?_, ?_, ?_⟩ <;> (repeat (first | assumption | apply cD | apply cA)))
            (first | (go_at_call 49; refine (turn_exact J K D _ base ps _ k (nx k) t ?_ (unhide HTT)).mono ?_; (refine (unhide HPSr).below ?_; (repeat (first | exact Below.refl _ _ | apply belD | apply belA))); rintro e w2 ⟨rfl, rfl⟩))
          all_goals
            go_wp2_with fail
            go_meet
            case rel =>
              refine ⟨_, rfl, ?_, ?_⟩
              · repeat (first | (refine bN _ _ ?_; simp; done) | apply bD | apply bA)
              · repeat (first | exact Below.refl _ _ | apply belD | apply belA)
        case rest =>
          obtain ⟨tb, rfl, htb, hb2⟩ := hcut
          have HTB := hide htb
          have HBE2 := hide ((unhide HBE).trans (hb2.mono (unhide HBE).size))
          have HROW2 := hide (own_below (unhide HROW) hb2)
          have HBOX2 := hide ((hb2.block _ (lt_of_block (unhide HBOX))).trans (unhide HBOX))
          clear htb hb2 cP cD' j0 j1 j2 j3 HBOX HROW HPSr
          have t0 : wc.cell? ⟨tb, 0, none⟩ = some (.int .i64 (t.x.lo : Int)) := blk_cell (unhide HTB) 0
          have t1 : wc.cell? ⟨tb, 1, none⟩ = some (.int .i64 (t.x.hi : Int)) := blk_cell (unhide HTB) 1
          have t2 : wc.cell? ⟨tb, 2, none⟩ = some (.bool t.x.rest) := blk_cell (unhide HTB) 2
          have t3 : wc.cell? ⟨tb, 3, none⟩ = some (.int .i64 (t.x.mn : Int)) := blk_cell (unhide HTB) 3
          have t4 : wc.cell? ⟨tb, 4, none⟩ = some (.int .i64 (t.x.mx : Int)) := blk_cell (unhide HTB) 4
          have t5 : wc.cell? ⟨tb, 5, none⟩ = some (.int .i64 (t.pl : Int)) := blk_cell (unhide HTB) 5
          have t6 : wc.cell? ⟨tb, 6, none⟩ = some (.int .i64 (t.no : Int)) := blk_cell (unhide HTB) 6
          have t7 : wc.cell? ⟨tb, 7, none⟩ = some (.bool t.beg) := blk_cell (unhide HTB) 7
          have j1 : wc.cell? ⟨w.heap.size, 1, none⟩ = some (.int .i64 (K : Int)) := blk_cell (unhide HBOX2) 1
          obtain ⟨mr, hmr⟩ : ∃ mr, mr = Hx.moreR t := ⟨_, rfl⟩
          have hmr1 : -1 ≤ mr ∧ mr ≤ 1 := by rw [hmr]; unfold Hx.moreR; constructor <;> (split <;> split <;> omega)
          have HMR := hide hmr
          clear hmr
          go_upto_region 7 with fail
          go_cut [39] (fun s39 wd => s39 = .bool (decide (r + mr ≤ (K : Int))) ∧ Below wc.heap.size wc wd)
          case first =>
            go_region_held3 (fun w' => w'.cell? ⟨w.heap.size, 1, none⟩ = some (.int .i64 (K : Int)) ∧ w'.cell? ⟨tb, 0, none⟩ = some (.int .i64 (t.x.lo : Int)) ∧ w'.cell? ⟨tb, 1, none⟩ = some (.int .i64 (t.x.hi : Int)) ∧ w'.cell? ⟨tb, 2, none⟩ = some (.bool t.x.rest) ∧ w'.cell? ⟨tb, 3, none⟩ = some (.int .i64 (t.x.mn : Int)) ∧ w'.cell? ⟨tb, 4, none⟩ = some (.int .i64 (t.x.mx : Int)) ∧ w'.cell? ⟨tb, 5, none⟩ = some (.int .i64 (t.pl : Int)) ∧ w'.cell? ⟨tb, 6, none⟩ = some (.int .i64 (t.no : Int)) ∧ w'.cell? ⟨tb, 7, none⟩ = some (.bool t.beg)) (refine ⟨?_, ?_, ?_, ?_, ?_, ?_, ?_, ?_, ?_⟩ <;> (repeat (first | assumption | apply cD | apply cA)))
              (first | (go_at_call 71; refine (more_any t _).mono ?_; rw [← unhide HMR]; rintro e w2 ⟨rfl, rfl⟩))
            all_goals
              go_wp2_with fail
              go_meet
              case rel =>
                refine ⟨by rw [IntWalk.i64_in _ ⟨by omega, by omega⟩], ?_⟩
                repeat (first | exact Below.refl _ _ | apply belD | apply belA)
          case rest =>
            obtain ⟨rfl, hb3⟩ := hcut
            have HTB3 := hide ((hb3.block _ (lt_of_block (unhide HTB))).trans (unhide HTB))
            have HBE3 := hide ((unhide HBE2).trans (hb3.mono (unhide HBE2).size))
            have HROW3 := hide (own_below (unhide HROW2) hb3)
            have HBOX3 := hide ((hb3.block _ (lt_of_block (unhide HBOX2))).trans (unhide HBOX2))
            clear hb3 t0 t1 t2 t3 t4 t5 t6 t7 j1 HTB HBE2 HROW2 HBOX2
            cases hd : decide (r + mr ≤ (K : Int))
            · have hnone : Hid (Hx.nextAt K ps r nx k = none) := by
                show _ = _
                unfold Hx.nextAt
                rw [unhide HTT]
                simp only
                rw [if_neg (by rw [← unhide HMR]; simpa using hd)]
              clear hd
              go_wp2_with fail
              go_roundg (ps.length - (k + 1))
              case measure => omega
              case rel => exact ⟨k + 1, l, by omega, rfl, by go_num, by rw [nextUp, unhide hnone, unhide HLS]; simp, unhide HROW3, unhide HBE3, unhide HBOX3⟩
            · have hsome : Hid (Hx.nextAt K ps r nx k = some t) := by
                show _ = _
                unfold Hx.nextAt
                rw [unhide HTT]
                simp only
                rw [if_pos (by rw [← unhide HMR]; simpa using hd)]
              have t0 : wc.cell? ⟨tb, 0, none⟩ = some (.int .i64 (t.x.lo : Int)) := blk_cell (unhide HTB3) 0
              have t1 : wc.cell? ⟨tb, 1, none⟩ = some (.int .i64 (t.x.hi : Int)) := blk_cell (unhide HTB3) 1
              have t2 : wc.cell? ⟨tb, 2, none⟩ = some (.bool t.x.rest) := blk_cell (unhide HTB3) 2
              have t3 : wc.cell? ⟨tb, 3, none⟩ = some (.int .i64 (t.x.mn : Int)) := blk_cell (unhide HTB3) 3
              have t4 : wc.cell? ⟨tb, 4, none⟩ = some (.int .i64 (t.x.mx : Int)) := blk_cell (unhide HTB3) 4
              have t5 : wc.cell? ⟨tb, 5, none⟩ = some (.int .i64 (t.pl : Int)) := blk_cell (unhide HTB3) 5
              have t6 : wc.cell? ⟨tb, 6, none⟩ = some (.int .i64 (t.no : Int)) := blk_cell (unhide HTB3) 6
              have t7 : wc.cell? ⟨tb, 7, none⟩ = some (.bool t.beg) := blk_cell (unhide HTB3) 7
              clear hd
              go_wp2_with (at_builtin; refine wpList_append_own _ rfl _ _ 87 rfl w.heap.size 83 i0 (.agg #[.int .i64 0, .int .i64 0, .bool false, .int .i64 0, .int .i64 0, .int .i64 0, .int .i64 0, .bool false]) 8 64 Tryd.underlying87 (unhide HI) (unhide HZ0) (unhide HZ1) (unhide HZ2) rfl (by decide) _ _ _ rfl ((unhide HROW3).alloc _) ⟨wc.heap.size, 0, none⟩ 1 1 (trnCells t) rfl rfl ?d1 ?d2 ?d3 ?d4 ?d5 ?_)
              case d1 => exact news_new wc (trnCells t) 83
              case d2 => exact trnCells_one _
              case d3 => unfold maxLen; omega
              case d4 => omega
              case d5 => have := (unhide HBE3).size; simp; omega
              · intro v' w3 hown' hgrow _
                have HOWN3 := hide hown'
                have HGROW := hide hgrow
                clear hown' hgrow
                go_wp2_with fail
                go_roundg (ps.length - (k + 1))
                case measure => omega
                case rel =>
                  refine ⟨k + 1, l ++ [t], by omega, rfl, by go_num, by rw [nextUp, unhide hsome, unhide HLS]; simp, ?_, (belA _ (unhide HBE3)).grown (unhide HGROW) (by have := (unhide HBE3).size; simp; omega) (fun k e => ((unhide HROW3).lt k e).1), ?_⟩
                  · show World.ownsRow _ _ _ _ _ _ _
                    rw [trnsCells_snoc, List.length_append]; exact unhide HOWN3
                  · exact blk_kept (bA _ (unhide HBOX3)) (unhide HGROW) (fun e => own_not_box (unhide HROW3) (unhide HBOX3) (by decide) e.symm)
    · have hke : k = ps.length := by omega
      have hfin : Hid (Hx.nxtF K ps r nx = l) := by show _ = _; rw [Hx.nxtF, unhide HLS, hke]
      clear hke
      have hkI : decide ((k : Int) < (ps.length : Int)) = false := by simp; omega
      go_wp2_with fail
      go_returns
      exact ⟨_, rfl, by rw [unhide hfin]; exact unhide HROW, unhide HBE⟩

end Go.Proofs.YtppcnlkhdgmaiaaDoor
