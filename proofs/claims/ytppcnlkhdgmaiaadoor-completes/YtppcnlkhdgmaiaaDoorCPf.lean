/- What the tests of a parsed protocol do: isWrong, firstWrongStep, hasTooMany. What hasTooMany does, and the program's Check: its error and its place are those of the plain reading. What the law's own functions do, whichever kinds of steps they play: num, UpTo over the kinds from lo to hi, each of which plays well. What the cards of the laws over scripts share: the facts on types, the table of bytes, one step of a script as it lies. The plain mathematics of reading tables and scripts, and of which table is right. No program is named here. -/
import Derived.Test.YtppcnlkhdgmaiaaDoorCRdE
import Derived.Test.YtppcnlkhdgmaiaaDoorCards
import Derived.Test.YtppcnlkhdgmaiaaDoorTie
import Derived.WalkKit
import Derived.ProofKit
import Derived.OpenShut
import Derived.Deep.DeepHandedRow
import Derived.Deep.Slices
import Derived.Lib.LaidTab
import Derived.LaidSub
import Derived.Lay
import Derived.MakeChecks
import Derived.Test.YtppcnlkhdgmaiaaDoorCRdD
namespace Go.Proofs.YtppcnlkhdgmaiaaDoor
open Go.RowKit

set_option maxHeartbeats 1000000 in
theorem wrong_any (x : Hx.Stp) (ki : Int) (k : Nat) (w : World) (hk : ki = (k : Int)) :
    Calls Tryd.prog 67 #[.agg #[.int .i64 (x.lo : Int), .int .i64 (x.hi : Int), .bool x.rest, .int .i64 (x.mn : Int), .int .i64 (x.mx : Int)], .int .i64 ki] w fun e w' => e = .returned (.bool (Hx.wrongB k x)) ∧ Below w.heap.size w w' := by
  obtain ⟨lo, hi, rest, mn, mx⟩ := x
  simp only
  subst hk
  by_cases h1 : lo = 0
  · have e : Hid (Hx.wrongB k ⟨lo, hi, rest, mn, mx⟩ = true) := by show _ = _; simp [Hx.wrongB, h1]
    have h1' : ((lo : Int) == 0) = true := by simp [h1]
    clear h1
    go_enter Tryd.func67, Tryd.ntmps67
    go_wp2
    go_returns
    exact ⟨by rw [unhide e]; rfl, (Below.refl _ _).alloc (Nat.le_refl _) _⟩
  · have h1' : ((lo : Int) == 0) = false := by simp; omega
    by_cases h2 : hi < lo
    · have e : Hid (Hx.wrongB k ⟨lo, hi, rest, mn, mx⟩ = true) := by show _ = _; simp [Hx.wrongB, h2]
      have h2' : (hi : Int) < (lo : Int) := by omega
      clear h1 h2
      go_enter Tryd.func67, Tryd.ntmps67
      go_wp2
      go_returns
      exact ⟨by rw [unhide e]; rfl, (Below.refl _ _).alloc (Nat.le_refl _) _⟩
    · have h2' : ¬ (hi : Int) < (lo : Int) := by omega
      cases rest
      · have e : Hid (Hx.wrongB k ⟨lo, hi, false, mn, mx⟩ = false) := by show _ = _; simp [Hx.wrongB]; omega
        clear h1 h2
        go_enter Tryd.func67, Tryd.ntmps67
        go_wp2
        go_returns
        exact ⟨by rw [unhide e]; rfl, (Below.refl _ _).alloc (Nat.le_refl _) _⟩
      · by_cases h3 : k = 0
        · have e : Hid (Hx.wrongB k ⟨lo, hi, true, mn, mx⟩ = true) := by show _ = _; simp [Hx.wrongB, h3]
          have h3' : ((k : Int) == 0) = true := by simp [h3]
          clear h1 h2 h3
          go_enter Tryd.func67, Tryd.ntmps67
          go_wp2
          go_returns
          exact ⟨by rw [unhide e]; rfl, (Below.refl _ _).alloc (Nat.le_refl _) _⟩
        · have e : Hid (Hx.wrongB k ⟨lo, hi, true, mn, mx⟩ = decide (mx < mn)) := by
            show _ = _
            have e1 : (lo == 0) = false := by simp; omega
            have e2 : decide (hi < lo) = false := by simp; omega
            have e3 : (k == 0) = false := by simp; omega
            simp [Hx.wrongB, e1, e2, e3]
          have h3' : ((k : Int) == 0) = false := by simp; omega
          clear h1 h2 h3
          go_enter Tryd.func67, Tryd.ntmps67
          go_wp2
          go_returns
          exact ⟨by rw [unhide e]; rfl, (Below.refl _ _).alloc (Nat.le_refl _) _⟩

theorem accCells_at (acc : List Hx.Stp) (j : Nat) (x : Hx.Stp) (h : acc[j]? = some x) (t : Nat) (ht : t < 5) : (accCells acc)[j * 5 + t]? = (stpCells x)[t]? := by
  induction acc generalizing j with
  | nil => simp at h
  | cons y r ih =>
    have e : accCells (y :: r) = stpCells y ++ accCells r := rfl
    rw [e]
    have hl : (stpCells y).length = 5 := rfl
    cases j with
    | zero =>
      simp at h
      subst h
      rw [Nat.zero_mul, Nat.zero_add, List.getElem?_append_left (by omega)]
    | succ j =>
      rw [List.getElem?_append_right (by omega), hl, show (j + 1) * 5 + t - 5 = j * 5 + t by omega]
      exact ih j (by simpa using h)

theorem own_pos {w : World} {base : Nat} {e : TypeId} {size : Nat} {v : Value} {n : Nat} {xs : List Value} (h : w.ownsRow base e size v n xs) (hn : 0 < n) : ∃ g cap, v = .slice (some ⟨g, 0, none⟩) n cap ∧ base ≤ g ∧ g < w.heap.size := by
  rcases h.2 with ⟨_, h0⟩ | ⟨g, cap, cur, rfl, hb, hh, _⟩
  · omega
  · exact ⟨g, cap, rfl, hb, lt_of_block hh⟩

/-- What a slice of steps reads as, cell by cell. -/
theorem own_step {w : World} {base g n cap : Nat} {p : List Hx.Stp} (h : w.ownsRow base 81 5 (.slice (some ⟨g, 0, none⟩) n cap) n (accCells p)) (hn : n = p.length) (j : Nat) (x : Hx.Stp) (hx : p[j]? = some x) (t : Nat) (ht : t < 5) :
    w.cell? ⟨g, j * 5 + t, none⟩ = (stpCells x)[t]? := by
  have hj : j < p.length := by
    by_cases e : j < p.length
    · exact e
    · rw [List.getElem?_eq_none (by omega)] at hx; cases hx
  rw [h.cellAt (j * 5 + t) (by omega), accCells_at p j x hx t ht]

theorem flat_take {α : Type} (ps : List (List α)) (k : Nat) (p : List α) (h : ps[k]? = some p) : (ps.take (k + 1)).flatten = (ps.take k).flatten ++ p := by
  rw [List.take_add_one, h]; simp
theorem flat_split {α : Type} (ps : List (List α)) (k : Nat) (p : List α) (h : ps[k]? = some p) : ps.flatten = (ps.take k).flatten ++ (p ++ (ps.drop (k + 1)).flatten) := by
  have e : ps = ps.take k ++ (p :: ps.drop (k + 1)) := by
    have hk : k < ps.length := by
      by_cases e : k < ps.length
      · exact e
      · rw [List.getElem?_eq_none (by omega)] at h; cases h
    have hp : ps[k] = p := by rw [List.getElem?_eq_getElem hk] at h; exact Option.some.inj h
    rw [← hp, ← List.drop_eq_getElem_cons hk, List.take_append_drop]
  conv => lhs; rw [e]
  simp
theorem cons_split {α : Type} (p : List α) (m : Nat) (x : α) (h : p[m]? = some x) : p = p.take m ++ (x :: p.drop (m + 1)) := by
  have hk : m < p.length := by
    by_cases e : m < p.length
    · exact e
    · rw [List.getElem?_eq_none (by omega)] at h; cases h
  have hp : p[m] = x := by rw [List.getElem?_eq_getElem hk] at h; exact Option.some.inj h
  rw [← hp, ← List.drop_eq_getElem_cons hk, List.take_append_drop]
theorem first_at {K : Nat} {ps : List (List Hx.Stp)} {k m : Nat} {p : List Hx.Stp} {x : Hx.Stp} (hp : ps[k]? = some p) (hx : p[m]? = some x) (h1 : ∀ y ∈ (ps.take k).flatten, Hx.wrongB K y = false) (h2 : ∀ y ∈ p.take m, Hx.wrongB K y = false)
    (hw : Hx.wrongB K x = true) : Hx.firstWrong K ps = some ((ps.take k).flatten.length + m) := by
  have hm : m ≤ p.length := by
    by_cases e : m < p.length
    · omega
    · rw [List.getElem?_eq_none (by omega)] at hx; cases hx
  unfold Hx.firstWrong
  rw [flat_split ps k p hp, List.findIdx?_append, List.findIdx?_eq_none_iff.2 h1, Option.none_or, List.findIdx?_append]
  conv => lhs; rw [cons_split p m x hx]
  rw [List.findIdx?_append, List.findIdx?_eq_none_iff.2 h2, Option.none_or, List.findIdx?_cons, if_pos hw]
  simp [Nat.min_eq_left hm]; omega
theorem first_none {K : Nat} {ps : List (List Hx.Stp)} (h : ∀ y ∈ ps.flatten, Hx.wrongB K y = false) : Hx.firstWrong K ps = none := List.findIdx?_eq_none_iff.2 h
theorem flat_le {ps : List (List Hx.Stp)} (h : ∀ p ∈ ps, p.length ≤ 121) (k : Nat) : (ps.take k).flatten.length ≤ k * 121 := by
  induction k generalizing ps with
  | zero => simp
  | succ k ih =>
    cases ps with
    | nil => simp
    | cons p r =>
      have h1 := h p (by simp)
      have h2 := ih (ps := r) (fun q hq => h q (by simp [hq]))
      simp only [List.take_succ_cons, List.flatten_cons, List.length_append]
      omega

set_option maxHeartbeats 2000000 in
theorem first_any (J K D : Nat) (v : Value) (base : Nat) (ps : List (List Hx.Stp)) (w : World) (hps : Plts w base v ps) (hn : 0 < ps.length) (hl : ps.length ≤ 121) (hne : ∀ p ∈ ps, 0 < p.length) :
    Calls Tryd.prog 46 #[.agg #[.int .i64 (J : Int), .int .i64 (K : Int), .int .i64 (D : Int), v]] w fun e w' => e = .returned (.tuple #[.int .i64 (((Hx.firstWrong K ps).getD 0 : Nat) : Int), .bool (Hx.firstWrong K ps).isSome]) ∧ Below w.heap.size w w' := by
  obtain ⟨vs, hvs, hpp⟩ := hps
  obtain ⟨g, cap, rfl, _, hg⟩ := own_pos hvs hn
  have HFL : Hid (∀ k, (ps.take k).flatten.length ≤ k * 121) := fun k => flat_le (fun p hp => by
    obtain ⟨i, hi⟩ := List.getElem?_of_mem hp
    obtain ⟨_, _, _, h⟩ := hpp i p hi
    exact h) k
  have HVS := hide hvs
  have HPP := hide hpp
  have HNE := hide hne
  clear hvs hpp hne
  go_enter Tryd.func46, Tryd.ntmps46
  go_wp2_with fail
  go_loopg [4, 12] ps.length (fun gk num i wr => ∃ k : Nat, k ≤ ps.length ∧ gk = ps.length - k ∧ i = .int .i64 (k : Int) ∧ num = .int .i64 (((ps.take k).flatten.length : Nat) : Int) ∧ (∀ x ∈ (ps.take k).flatten, Hx.wrongB K x = false) ∧ Below w.heap.size w wr ∧ wr.heap[w.heap.size]? = some (.cells #[.int .i64 (J : Int), .int .i64 (K : Int), .int .i64 (D : Int), .slice (some ⟨g, 0, none⟩) ps.length cap] 75 (0, 0)))
  case atStart => exact ⟨0, Nat.zero_le _, rfl, rfl, rfl, by simp, (Below.refl _ _).alloc (Nat.le_refl _) _, blk_new _ _ _⟩
  case round =>
    obtain ⟨k, hk, rfl, rfl, rfl, hall, hbe, hbox⟩ := hrel
    have HALL := hide hall
    have HBE := hide hbe
    have HBOX := hide hbox
    clear hall hbe hbox
    by_cases hlt : k < ps.length
    · obtain ⟨p, hp⟩ : ∃ p, ps[k]? = some p := ⟨ps[k], List.getElem?_eq_getElem hlt⟩
      obtain ⟨u, hu, hou, hp121⟩ := unhide HPP k p hp
      have hp0 : 0 < p.length := unhide HNE p (List.mem_of_getElem? hp)
      obtain ⟨g2, cap2, rfl, _, hg2⟩ := own_pos hou hp0
      have cP : wr.cell? ⟨g, k, none⟩ = some (.slice (some ⟨g2, 0, none⟩) p.length cap2) := by
        rw [(unhide HBE).cell (p := ⟨g, k, none⟩) hg, (unhide HVS).cellAt k (by omega)]; exact hu
      have hfk := unhide HFL k
      have HOU := hide hou
      have HP := hide hp
      clear hu hou hp
      obtain ⟨c, hc⟩ : ∃ c, c = (ps.take k).flatten.length := ⟨_, rfl⟩
      rw [← hc]
      rw [← hc] at hfk
      have HC := hide hc
      clear hc
      go_wp2_with fail
      clear cP
      go_loopg [4, 18] p.length (fun gk num j wr2 => ∃ m : Nat, m ≤ p.length ∧ gk = p.length - m ∧ j = .int .i64 (m : Int) ∧ num = .int .i64 ((c + m : Nat) : Int) ∧ (∀ x ∈ p.take m, Hx.wrongB K x = false) ∧ Below w.heap.size w wr2 ∧ wr2.heap[w.heap.size]? = some (.cells #[.int .i64 (J : Int), .int .i64 (K : Int), .int .i64 (D : Int), .slice (some ⟨g, 0, none⟩) ps.length cap] 75 (0, 0)))
      case atStart => exact ⟨0, Nat.zero_le _, rfl, rfl, rfl, by simp, unhide HBE, unhide HBOX⟩
      case round =>
        clear HBE HBOX
        obtain ⟨m, hm, rfl, rfl, rfl, hall2, hbe, hbox⟩ := hrel
        have HALL2 := hide hall2
        have HBE := hide hbe
        have b1 : wr.cell? ⟨w.heap.size, 1, none⟩ = some (.int .i64 (K : Int)) := blk_cell hbox 1
        have HBOX := hide hbox
        clear hall2 hbe hbox
        by_cases hml : m < p.length
        · obtain ⟨x, hx⟩ : ∃ x, p[m]? = some x := ⟨p[m], List.getElem?_eq_getElem hml⟩
          have HX := hide hx
          have cx : ∀ t, t < 5 → wr.cell? ⟨g2, m * 5 + t, none⟩ = (stpCells x)[t]? := fun t ht => by
            rw [(unhide HBE).cell (p := ⟨g2, m * 5 + t, none⟩) hg2]; exact own_step (unhide HOU) rfl m x hx t ht
          have x0 : wr.cell? ⟨g2, m * 5, none⟩ = some (.int .i64 (x.lo : Int)) := cx 0 (by omega)
          have x1 : wr.cell? ⟨g2, m * 5 + 1, none⟩ = some (.int .i64 (x.hi : Int)) := cx 1 (by omega)
          have x2 : wr.cell? ⟨g2, m * 5 + 2, none⟩ = some (.bool x.rest) := cx 2 (by omega)
          have x3 : wr.cell? ⟨g2, m * 5 + 3, none⟩ = some (.int .i64 (x.mn : Int)) := cx 3 (by omega)
          have x4 : wr.cell? ⟨g2, m * 5 + 4, none⟩ = some (.int .i64 (x.mx : Int)) := cx 4 (by omega)
          have b1a : (wr.alloc (.cells #[.int .i64 (x.lo : Int), .int .i64 (x.hi : Int), .bool x.rest, .int .i64 (x.mn : Int), .int .i64 (x.mx : Int)] 81)).cell? ⟨w.heap.size, 1, none⟩ = some (.int .i64 (K : Int)) := (grown_alloc wr _ none).cell b1 (by simp)
          clear hx cx
          cases hwr : Hx.wrongB K x
          · have HW := hide hwr
            clear hwr
            go_wp2_with fail
            refine (wrong_any x _ K _ rfl).mono ?_
            rw [unhide HW]
            rintro e w2 ⟨rfl, hb2⟩
            have HB2 := hide hb2
            clear hb2 x0 x1 x2 x3 x4 b1 b1a
            go_wp2_with fail
            go_roundg (p.length - (m + 1))
            case measure => omega
            case rel =>
              refine ⟨m + 1, by omega, rfl, by go_num, by go_num, ?_, ?_, ?_⟩
              · intro y hy
                rw [List.take_add_one, unhide HX] at hy
                simp at hy
                rcases hy with hy | rfl
                · exact unhide HALL2 y hy
                · exact unhide HW
              · exact ((unhide HBE).alloc (unhide HBE).size _).trans ((unhide HB2).mono (by have := (unhide HBE).size; simp; omega))
              · have h1 := blk_kept (unhide HBOX) (grown_alloc wr (.cells #[.int .i64 (x.lo : Int), .int .i64 (x.hi : Int), .bool x.rest, .int .i64 (x.mn : Int), .int .i64 (x.mx : Int)] 81) none) (by simp)
                rw [(unhide HB2).block w.heap.size (lt_of_block h1)]; exact h1
          · have hfin := hide (first_at (unhide HP) (unhide HX) (unhide HALL) (unhide HALL2) hwr)
            have HW := hide hwr
            clear hwr
            go_wp2_with fail
            refine (wrong_any x _ K _ rfl).mono ?_
            rw [unhide HW]
            rintro e w2 ⟨rfl, hb2⟩
            have HB2 := hide hb2
            clear hb2 x0 x1 x2 x3 x4 b1 b1a
            go_wp2_with fail
            go_returns
            refine ⟨by rw [unhide hfin, unhide HC]; rfl, ?_⟩
            exact ((unhide HBE).alloc (unhide HBE).size _).trans ((unhide HB2).mono (by have := (unhide HBE).size; simp; omega))
        · have hme : m = p.length := by omega
          have HNEW := hide (flat_take ps k p (unhide HP))
          have HME := hide hme
          clear hme b1
          go_wp2_with fail
          go_roundg (ps.length - (k + 1))
          case measure => omega
          case rel =>
            refine ⟨k + 1, by omega, rfl, by go_num, ?_, ?_, unhide HBE, unhide HBOX⟩
            · rw [unhide HNEW, List.length_append, ← unhide HC, ← unhide HME]
            · intro y hy
              rw [unhide HNEW] at hy
              rcases List.mem_append.1 hy with h | h
              · exact unhide HALL y h
              · have h2 := unhide HALL2
                rw [unhide HME, List.take_length] at h2
                exact h2 y h
    · have hke : k = ps.length := by omega
      have hfin : Hid (Hx.firstWrong K ps = none) := first_none (by
        have := unhide HALL
        rw [hke, List.take_length] at this
        exact this)
      clear hke
      go_wp2_with fail
      go_returns
      exact ⟨by rw [unhide hfin]; rfl, unhide HBE⟩

end Go.Proofs.YtppcnlkhdgmaiaaDoor
namespace Go.Proofs.YtppcnlkhdgmaiaaDoor
open Go.RowKit

theorem any_take {ps : List (List Hx.Stp)} {k : Nat} {p : List Hx.Stp} (hp : ps[k]? = some p) : (ps.take (k + 1)).any (fun p => decide (5 < p.length)) = ((ps.take k).any (fun p => decide (5 < p.length)) || decide (5 < p.length)) := by
  rw [List.take_add_one, hp]; simp [List.any_append]
theorem many_hit {ps : List (List Hx.Stp)} {k : Nat} {p : List Hx.Stp} (hp : ps[k]? = some p) (h : 5 < p.length) : Hx.manyB ps = true := by
  have : ps.any (fun p => decide (5 < p.length)) = true := List.any_eq_true.2 ⟨p, List.mem_of_getElem? hp, by simpa using h⟩
  simp [Hx.manyB, this]
theorem many_end {ps : List (List Hx.Stp)} (h : ∀ p ∈ ps, p.length ≤ 5) : Hx.manyB ps = (decide (4 < ps.length) || decide (9 < ps.flatten.length)) := by
  have : ps.any (fun p => decide (5 < p.length)) = false := by
    rw [List.any_eq_false]
    intro p hp
    have := h p hp
    simpa using this
  rw [Hx.manyB, this, Bool.false_or]

set_option maxHeartbeats 2000000 in
theorem many_any (J K D : Nat) (v : Value) (base : Nat) (ps : List (List Hx.Stp)) (w : World) (hps : Plts w base v ps) (hn : 0 < ps.length) (hl : ps.length ≤ 121) (hne : ∀ p ∈ ps, 0 < p.length) :
    Calls Tryd.prog 47 #[.agg #[.int .i64 (J : Int), .int .i64 (K : Int), .int .i64 (D : Int), v]] w fun e w' => e = .returned (.bool (Hx.manyB ps)) ∧ Below w.heap.size w w' := by
  obtain ⟨vs, hvs, hpp⟩ := hps
  obtain ⟨g, cap, rfl, _, hg⟩ := own_pos hvs hn
  have HFL : Hid (∀ k, (ps.take k).flatten.length ≤ k * 121) := fun k => flat_le (fun p hp => by
    obtain ⟨i, hi⟩ := List.getElem?_of_mem hp
    obtain ⟨_, _, _, h⟩ := hpp i p hi
    exact h) k
  have HVS := hide hvs
  have HPP := hide hpp
  have HNE := hide hne
  clear hvs hpp hne
  go_enter Tryd.func47, Tryd.ntmps47
  go_wp2_with fail
  go_loopg [3, 9] ps.length (fun gk num i wr => ∃ k : Nat, k ≤ ps.length ∧ gk = ps.length - k ∧ i = .int .i64 (k : Int) ∧ num = .int .i64 (((ps.take k).flatten.length : Nat) : Int) ∧ (∀ p ∈ ps.take k, p.length ≤ 5) ∧ Below w.heap.size w wr ∧ wr.heap[w.heap.size]? = some (.cells #[.int .i64 (J : Int), .int .i64 (K : Int), .int .i64 (D : Int), .slice (some ⟨g, 0, none⟩) ps.length cap] 75 (0, 0)))
  case atStart => exact ⟨0, Nat.zero_le _, rfl, rfl, rfl, by simp, (Below.refl _ _).alloc (Nat.le_refl _) _, blk_new _ _ _⟩
  case round =>
    obtain ⟨k, hk, rfl, rfl, rfl, hall, hbe, hbox⟩ := hrel
    have HALL := hide hall
    have HBE := hide hbe
    have b3 : wr.cell? ⟨w.heap.size, 3, none⟩ = some (.slice (some ⟨g, 0, none⟩) ps.length cap) := blk_cell hbox 3
    have HBOX := hide hbox
    clear hall hbe hbox
    have hfk := unhide HFL k
    obtain ⟨c, hc⟩ : ∃ c, c = (ps.take k).flatten.length := ⟨_, rfl⟩
    rw [← hc]
    rw [← hc] at hfk
    have HC := hide hc
    clear hc
    by_cases hlt : k < ps.length
    · obtain ⟨p, hp⟩ : ∃ p, ps[k]? = some p := ⟨ps[k], List.getElem?_eq_getElem hlt⟩
      obtain ⟨u, hu, hou, hp121⟩ := unhide HPP k p hp
      have hp0 : 0 < p.length := unhide HNE p (List.mem_of_getElem? hp)
      obtain ⟨g2, cap2, rfl, _, hg2⟩ := own_pos hou hp0
      have cP : wr.cell? ⟨g, k, none⟩ = some (.slice (some ⟨g2, 0, none⟩) p.length cap2) := by
        rw [(unhide HBE).cell (p := ⟨g, k, none⟩) hg, (unhide HVS).cellAt k (by omega)]; exact hu
      have HP := hide hp
      clear hu hou hp
      by_cases h5 : 5 < p.length
      · have hfin := hide (many_hit (unhide HP) h5)
        have h5' : (5 : Int) < (p.length : Int) := by omega
        go_wp2_with fail
        go_returns
        exact ⟨by rw [unhide hfin]; rfl, unhide HBE⟩
      · have h5' : ¬ (5 : Int) < (p.length : Int) := by omega
        have HNEW := hide (flat_take ps k p (unhide HP))
        go_wp2_with fail
        go_roundg (ps.length - (k + 1))
        case measure => omega
        case rel =>
          refine ⟨k + 1, by omega, rfl, by go_num, ?_, ?_, unhide HBE, unhide HBOX⟩
          · rw [unhide HNEW, List.length_append, ← unhide HC]; go_num
          · intro q hq
            rw [List.take_add_one, unhide HP] at hq
            simp at hq
            rcases hq with hq | rfl
            · exact unhide HALL q hq
            · omega
    · have hke : k = ps.length := by omega
      have hfin : Hid (Hx.manyB ps = (decide (4 < ps.length) || decide (9 < c))) := by
        have h1 := unhide HALL
        have h2 := unhide HC
        rw [hke, List.take_length] at h1 h2
        show _ = _
        rw [many_end h1, h2]
      clear hke
      by_cases h4 : 4 < ps.length
      · have hfin2 : Hid (Hx.manyB ps = true) := by show _ = _; rw [unhide hfin]; simp [h4]
        have h4' : (4 : Int) < (ps.length : Int) := by omega
        clear h4
        go_wp2_with fail
        go_returns
        exact ⟨by rw [unhide hfin2]; rfl, unhide HBE⟩
      · have h4' : ¬ (4 : Int) < (ps.length : Int) := by omega
        by_cases h9 : 9 < c
        · have hfin2 : Hid (Hx.manyB ps = true) := by show _ = _; rw [unhide hfin]; simp [h9]
          have h9' : (9 : Int) < (c : Int) := by omega
          clear h4 h9
          go_wp2_with fail
          go_returns
          exact ⟨by rw [unhide hfin2]; rfl, unhide HBE⟩
        · have hfin2 : Hid (Hx.manyB ps = false) := by show _ = _; rw [unhide hfin]; simp; omega
          have h9' : ¬ (9 : Int) < (c : Int) := by omega
          clear h4 h9
          go_wp2_with fail
          go_returns
          exact ⟨by rw [unhide hfin2]; rfl, unhide HBE⟩

/- Of plates and their steps there is at least one. -/
theorem afterF_len (s : ByteArray) (st : Hx.St) (acc : List Hx.Stp) : acc.length ≤ (Hx.afterF s st acc).2.length := by
  induction st, acc using Hx.afterF.induct s with
  | case1 st acc h => rw [Hx.afterF_bad h]; simp
  | case2 st acc h e r ih =>
    rw [Hx.afterF_comma (by simpa using h) e]
    exact Nat.le_trans (by simp) ih
  | case3 st acc h e e2 r ih =>
    rw [Hx.afterF_rest (by simpa using h) e2]
    exact Nat.le_trans (by simp) ih
  | case4 st acc h e e2 => rw [Hx.afterF_stop e e2]; simp
theorem plateF_len (s : ByteArray) (n : Nat) (st : Hx.St) : 0 < (Hx.plateF s n st).2.length := Nat.lt_of_lt_of_le (by simp) (afterF_len s _ _)
theorem platesF_ne (s : ByteArray) (st : Hx.St) (acc : List (List Hx.Stp)) (h : ∀ p ∈ acc, 0 < p.length) : ∀ p ∈ (Hx.platesF s st acc).2, 0 < p.length := by
  induction st, acc using Hx.platesF.induct s with
  | case1 st acc hb => rw [Hx.platesF_bad hb]; exact h
  | case2 st acc hb he =>
    rw [Hx.platesF_end (by simpa using hb) he]
    intro p hp
    rcases List.mem_append.1 hp with hp | hp
    · exact h p hp
    · rw [List.mem_singleton.1 hp]; exact plateF_len _ _ _
  | case3 st acc hb he ih =>
    rw [Hx.platesF_more (by simpa using hb) (by omega)]
    refine ih fun p hp => ?_
    rcases List.mem_append.1 hp with hp | hp
    · exact h p hp
    · rw [List.mem_singleton.1 hp]; exact plateF_len _ _ _
theorem platesF_pos (s : ByteArray) (st : Hx.St) (acc : List (List Hx.Stp)) (h : (Hx.platesF s st acc).1.bad = false) : 0 < (Hx.platesF s st acc).2.length := by
  induction st, acc using Hx.platesF.induct s with
  | case1 st acc hb => rw [Hx.platesF_bad hb] at h; simp only at h; rw [hb] at h; cases h
  | case2 st acc hb he => rw [Hx.platesF_end (by simpa using hb) he]; simp
  | case3 st acc hb he ih =>
    rw [Hx.platesF_more (by simpa using hb) (by omega)] at h ⊢
    exact ih h

/-- What checked answers: the fault, or what is read. -/
def ChkRes (s : ByteArray) (w : World) (e : Ending) (w' : World) : Prop :=
  Below w.heap.size w w' ∧
    (((Hx.checkF s).1 ≠ 0 ∧ e = .returned (.tuple #[.agg #[.int .i64 0, .int .i64 0, .int .i64 0, .slice none 0 0], .int .i64 ((Hx.checkF s).1 : Int), .int .i64 ((Hx.checkF s).2 : Int)])) ∨
     (Hx.checkF s = (0, 0) ∧ ∃ v, e = .returned (.tuple #[.agg #[.int .i64 ((Hx.headJ s).1 : Int), .int .i64 ((Hx.headK s).1 : Int), .int .i64 ((Hx.headD s).1 : Int), v], .int .i64 0, .int .i64 0]) ∧ Plts w' w.heap.size v (Hx.protF s).2))

theorem Plts.below {w w' : World} {base : Nat} {v : Value} {ps : List (List Hx.Stp)} (h : Plts w base v ps) (hb : Below w.heap.size w w') : Plts w' base v ps := by
  obtain ⟨vs, e1, e2⟩ := h
  have hg : w.grownBy w' none := ⟨hb.os, hb.tape, hb.output, hb.size, fun k h _ => hb.block k h⟩
  refine ⟨vs, e1.kept hg ?_, fun i p hp => ?_⟩
  · cases hv : v.ownBlock
    · exact Or.inl rfl
    · exact Or.inr (by simp)
  · obtain ⟨u, f1, f2, f3⟩ := e2 i p hp
    refine ⟨u, f1, f2.kept hg ?_, f3⟩
    cases hv : u.ownBlock
    · exact Or.inl rfl
    · exact Or.inr (by simp)

theorem four_set {b : Nat} {T : TypeId} (w : World) (x0 x1 x2 x3 y0 y1 y2 y3 : Value) (h : w.heap[b]? = some (.cells #[x0, x1, x2, x3] T (0, 0))) :
    ((((w.setCell ⟨b, 0, none⟩ y0).setCell ⟨b, 1, none⟩ y1).setCell ⟨b, 2, none⟩ y2).setCell ⟨b, 3, none⟩ y3).heap[b]? = some (.cells #[y0, y1, y2, y3] T (0, 0)) :=
  blk_set (blk_set (blk_set (blk_set h 0 y0) 1 y1) 2 y2) 3 y3

set_option maxRecDepth 100000 in
set_option maxHeartbeats 2000000 in
theorem checked_any (s : ByteArray) (w : World) (hs : s.size ≤ maxLen) (ht : Tab w) : Calls Tryd.prog 31 #[.string s] w (ChkRes s w) := by
  unfold maxLen at hs
  have HT := hide ht
  clear ht
  by_cases hlong : 120 < s.size
  · have hfin : Hid (Hx.checkF s = (1, 0)) := by show _ = _; simp [Hx.checkF, hlong]
    have hl' : (120 : Int) < (s.size : Int) := by omega
    clear hlong
    have HB0 := hide ((Below.refl w.heap.size w).alloc (Nat.le_refl _) (.cells #[.int .i64 0, .int .i64 0, .int .i64 0, .slice none 0 0] 75))
    go_enter Tryd.func31, Tryd.ntmps31
    go_wp2_with fail
    refine bodyPost_ret (v := .tuple #[.agg #[.int .i64 0, .int .i64 0, .int .i64 0, .slice none 0 0], .int .i64 1, .int .i64 0]) (by simp [results, Tryd.results31, go_sem]) rfl ?_
    exact ⟨unhide HB0, Or.inl ⟨by rw [unhide hfin]; simp, by rw [unhide hfin]; rfl⟩⟩
  · have hl' : ¬ (120 : Int) < (s.size : Int) := by omega
    have hs120 : s.size ≤ 120 := by omega
    have HC : Hid (Hx.checkF s = if (Hx.protF s).1.bad = true then (2, (Hx.protF s).1.pos) else Hx.verdict (Hx.headK s).1 (Hx.protF s).2) := by show _ = _; rw [Hx.checkF, if_neg hlong]
    clear hlong
    have HB0 := hide ((Below.refl w.heap.size w).alloc (Nat.le_refl _) (.cells #[.int .i64 0, .int .i64 0, .int .i64 0, .slice none 0 0] 75))
    have HR0 := hide (blk_new w #[.int .i64 0, .int .i64 0, .int .i64 0, .slice none 0 0] 75)
    have HS0 : Hid ((w.alloc (.cells #[.int .i64 0, .int .i64 0, .int .i64 0, .slice none 0 0] 75)).heap.size = w.heap.size + 1) := size_alloc_ _ _
    go_enter Tryd.func31, Tryd.ntmps31
    go_wp2_with fail
    generalize w.alloc (.cells #[.int .i64 0, .int .i64 0, .int .i64 0, .slice none 0 0] 75) = w0 at *
    have HT0 : Hid (Tab w0) := fun i hi => by
      have h1 := unhide HT i hi
      rw [(unhide HB0).cell (World.block_lt_of_cell? w ⟨1, i, none⟩ h1)]; exact h1
    refine (read_any s _ hs120 (unhide HT0)).mono ?_
    rintro e w1 ⟨hb1, h1⟩
    have HB1 := hide hb1
    have HR1 := hide ((hb1.block _ (lt_of_block (unhide HR0))).trans (unhide HR0))
    have HB01 := hide ((unhide HB0).trans (hb1.mono (unhide HB0).size))
    have hle := Nat.le_refl w.heap.size
    clear hb1
    rcases h1 with ⟨hbad, rfl⟩ | ⟨hgood, v, rfl, hpl, hlen⟩
    · have hfin : Hid (Hx.checkF s = (2, (Hx.protF s).1.pos)) := by show _ = _; rw [unhide HC, if_pos hbad]
      have HBAD := hide hbad
      clear hbad
      go_upto_region 4 with fail
      have HR2 := hide (blk_kept (unhide HR1) (grown_alloc w1 (.cells #[.int .i64 0, .int .i64 0, .int .i64 0, .slice none 0 0] 75) none) (by simp))
      have HB2 := hide ((unhide HB01).alloc (unhide HB01).size (.cells #[.int .i64 0, .int .i64 0, .int .i64 0, .slice none 0 0] 75))
      generalize w1.alloc (.cells #[.int .i64 0, .int .i64 0, .int .i64 0, .slice none 0 0] 75) = w2 at *
      have e0 : w2.cell? ⟨w.heap.size, 0, none⟩ = some (.int .i64 0) := blk_cell (unhide HR2) 0
      have e1 : w2.cell? ⟨w.heap.size, 1, none⟩ = some (.int .i64 0) := blk_cell (unhide HR2) 1
      have e2 : w2.cell? ⟨w.heap.size, 2, none⟩ = some (.int .i64 0) := blk_cell (unhide HR2) 2
      have e3 : w2.cell? ⟨w.heap.size, 3, none⟩ = some (.slice none 0 0) := blk_cell (unhide HR2) 3
      have ef := blk_free (unhide HR2)
      go_wp2_with fail
      refine bodyPost_ret (v := .tuple #[.agg #[.int .i64 0, .int .i64 0, .int .i64 0, .slice none 0 0], .int .i64 2, .int .i64 ((Hx.protF s).1.pos : Int)]) (by simp [results, Tryd.results31, go_sem, e0, e1, e2, e3]) rfl ?_
      refine ⟨?_, Or.inl ⟨by rw [unhide hfin]; simp, by rw [unhide hfin]; rfl⟩⟩
      first
        | exact (((((unhide HB2).setCell hle _).setCell hle _).setCell hle _).setCell hle _).drew
        | exact ((((unhide HB2).drew.setCell hle _).setCell hle _).setCell hle _).setCell hle _
        | exact ((((unhide HB2).setCell hle _).setCell hle _).setCell hle _).setCell hle _
    · have HV : Hid (Hx.checkF s = Hx.verdict (Hx.headK s).1 (Hx.protF s).2) := by show _ = _; rw [unhide HC, if_neg (by simp [hgood])]
      have hne : Hid (∀ p ∈ (Hx.protF s).2, 0 < p.length) := platesF_ne s _ [] (by simp)
      have hpos : 0 < (Hx.protF s).2.length := platesF_pos s _ [] hgood
      clear hgood HC
      obtain ⟨pr, hpr⟩ : ∃ pr, pr = Hx.protF s := ⟨_, rfl⟩
      rw [← hpr] at hpl hlen HV hne hpos
      have HPR := hide hpr
      clear hpr
      obtain ⟨pst, ps⟩ := pr
      simp only at hpl hlen HV hne hpos
      obtain ⟨ao, cap, rfl⟩ : ∃ ao cap, v = .slice ao ps.length cap := by
        obtain ⟨vs, h1, _⟩ := hpl
        exact own_form h1
      have HPL := hide hpl
      clear hpl
      go_upto_region 4 with fail
      have hp0 : 0 < w.heap.size := Nat.lt_of_le_of_lt (Nat.zero_le _) (unhide HT).pos
      have hp1 : 0 < w0.heap.size := by rw [unhide HS0]; omega
      have HPL1 := hide ((unhide HPL).kept (grown_alloc w1 (.cells #[.int .i64 ((Hx.headJ s).1 : Int), .int .i64 ((Hx.headK s).1 : Int), .int .i64 ((Hx.headD s).1 : Int), .slice ao ps.length cap] 75) (some 0)) hp1)
      have HBX := hide (blk_new w1 #[.int .i64 ((Hx.headJ s).1 : Int), .int .i64 ((Hx.headK s).1 : Int), .int .i64 ((Hx.headD s).1 : Int), .slice ao ps.length cap] 75)
      have HB2 := hide ((unhide HB01).alloc (unhide HB01).size (.cells #[.int .i64 ((Hx.headJ s).1 : Int), .int .i64 ((Hx.headK s).1 : Int), .int .i64 ((Hx.headD s).1 : Int), .slice ao ps.length cap] 75))
      have HR2 := hide (blk_kept (unhide HR1) (grown_alloc w1 (.cells #[.int .i64 ((Hx.headJ s).1 : Int), .int .i64 ((Hx.headK s).1 : Int), .int .i64 ((Hx.headD s).1 : Int), .slice ao ps.length cap] 75) none) (by simp))
      have HLT : Hid (w.heap.size ≠ w1.heap.size) := by
        have := lt_of_block (unhide HR1)
        show _ ≠ _
        omega
      generalize w1.alloc (.cells #[.int .i64 ((Hx.headJ s).1 : Int), .int .i64 ((Hx.headK s).1 : Int), .int .i64 ((Hx.headD s).1 : Int), .slice ao ps.length cap] 75) = w2 at *
      have z0 : w2.cell? ⟨w1.heap.size, 0, none⟩ = some (.int .i64 ((Hx.headJ s).1 : Int)) := blk_cell (unhide HBX) 0
      have z1 : w2.cell? ⟨w1.heap.size, 1, none⟩ = some (.int .i64 ((Hx.headK s).1 : Int)) := blk_cell (unhide HBX) 1
      have z2 : w2.cell? ⟨w1.heap.size, 2, none⟩ = some (.int .i64 ((Hx.headD s).1 : Int)) := blk_cell (unhide HBX) 2
      have z3 : w2.cell? ⟨w1.heap.size, 3, none⟩ = some (.slice ao ps.length cap) := blk_cell (unhide HBX) 3
      go_wp2_with fail
      refine (first_any _ _ _ _ _ ps _ (unhide HPL1) hpos hlen (unhide hne)).mono ?_
      rintro e w3 ⟨rfl, hb3⟩
      have HB3 := hide hb3
      have HBX3 := hide (((hb3).block _ (lt_of_block (unhide HBX))).trans (unhide HBX))
      have HR3 := hide (((hb3).block _ (lt_of_block (unhide HR2))).trans (unhide HR2))
      have HPL3 : Hid (Plts w3 w0.heap.size (.slice ao ps.length cap) ps) := Plts.below (unhide HPL1) hb3
      have y0 : w3.cell? ⟨w1.heap.size, 0, none⟩ = some (.int .i64 ((Hx.headJ s).1 : Int)) := blk_cell (unhide HBX3) 0
      have y1 : w3.cell? ⟨w1.heap.size, 1, none⟩ = some (.int .i64 ((Hx.headK s).1 : Int)) := blk_cell (unhide HBX3) 1
      have y2 : w3.cell? ⟨w1.heap.size, 2, none⟩ = some (.int .i64 ((Hx.headD s).1 : Int)) := blk_cell (unhide HBX3) 2
      have y3 : w3.cell? ⟨w1.heap.size, 3, none⟩ = some (.slice ao ps.length cap) := blk_cell (unhide HBX3) 3
      have e0 : w3.cell? ⟨w.heap.size, 0, none⟩ = some (.int .i64 0) := blk_cell (unhide HR3) 0
      have e1 : w3.cell? ⟨w.heap.size, 1, none⟩ = some (.int .i64 0) := blk_cell (unhide HR3) 1
      have e2 : w3.cell? ⟨w.heap.size, 2, none⟩ = some (.int .i64 0) := blk_cell (unhide HR3) 2
      have e3 : w3.cell? ⟨w.heap.size, 3, none⟩ = some (.slice none 0 0) := blk_cell (unhide HR3) 3
      have ef := blk_free (unhide HR3)
      have HB13 := hide ((unhide HB2).trans ((unhide HB3).mono (unhide HB2).size))
      clear hb3 HB3 HBX HR2 HB1 HB2 z0 z1 z2 z3
      cases hfw : Hx.firstWrong (Hx.headK s).1 ps with
      | some i =>
        have hfin : Hid (Hx.checkF s = (3, i)) := by show _ = _; rw [unhide HV, Hx.verdict, hfw]
        clear hfw
        go_wp2_with fail
        refine bodyPost_ret (v := .tuple #[.agg #[.int .i64 0, .int .i64 0, .int .i64 0, .slice none 0 0], .int .i64 3, .int .i64 (i : Int)]) (by simp [results, Tryd.results31, go_sem, e0, e1, e2, e3]) rfl ?_
        refine ⟨?_, Or.inl ⟨by rw [unhide hfin]; simp, by rw [unhide hfin]; rfl⟩⟩
        first
          | exact (((((unhide HB13).setCell hle _).setCell hle _).setCell hle _).setCell hle _).drew
          | exact ((((unhide HB13).drew.setCell hle _).setCell hle _).setCell hle _).setCell hle _
          | exact ((((unhide HB13).setCell hle _).setCell hle _).setCell hle _).setCell hle _
      | none =>
        have HFW := hide hfw
        clear hfw
        go_wp2_with fail
        refine (many_any _ _ _ _ _ ps _ (unhide HPL3) hpos hlen (unhide hne)).mono ?_
        rintro e w4 ⟨rfl, hb4⟩
        have HB14 := hide ((unhide HB13).trans (hb4.mono (unhide HB13).size))
        have HPL4 : Hid (Plts w4 w0.heap.size (.slice ao ps.length cap) ps) := Plts.below (unhide HPL3) hb4
        have HBX4 := hide (((hb4).block _ (lt_of_block (unhide HBX3))).trans (unhide HBX3))
        have HR4 := hide (((hb4).block _ (lt_of_block (unhide HR3))).trans (unhide HR3))
        clear hb4 HBX3 HR3 y0 y1 y2 y3 e0 e1 e2 e3 ef
        have y0 : w4.cell? ⟨w1.heap.size, 0, none⟩ = some (.int .i64 ((Hx.headJ s).1 : Int)) := blk_cell (unhide HBX4) 0
        have y1 : w4.cell? ⟨w1.heap.size, 1, none⟩ = some (.int .i64 ((Hx.headK s).1 : Int)) := blk_cell (unhide HBX4) 1
        have y2 : w4.cell? ⟨w1.heap.size, 2, none⟩ = some (.int .i64 ((Hx.headD s).1 : Int)) := blk_cell (unhide HBX4) 2
        have y3 : w4.cell? ⟨w1.heap.size, 3, none⟩ = some (.slice ao ps.length cap) := blk_cell (unhide HBX4) 3
        have e0 : w4.cell? ⟨w.heap.size, 0, none⟩ = some (.int .i64 0) := blk_cell (unhide HR4) 0
        have e1 : w4.cell? ⟨w.heap.size, 1, none⟩ = some (.int .i64 0) := blk_cell (unhide HR4) 1
        have e2 : w4.cell? ⟨w.heap.size, 2, none⟩ = some (.int .i64 0) := blk_cell (unhide HR4) 2
        have e3 : w4.cell? ⟨w.heap.size, 3, none⟩ = some (.slice none 0 0) := blk_cell (unhide HR4) 3
        have ef := blk_free (unhide HR4)
        cases hmb : Hx.manyB ps
        · have hfin : Hid (Hx.checkF s = (0, 0)) := by show _ = _; rw [unhide HV, Hx.verdict, unhide HFW]; simp [hmb]
          clear hmb
          go_wp2_with fail
          refine bodyPost_ret (v := .tuple #[.agg #[.int .i64 ((Hx.headJ s).1 : Int), .int .i64 ((Hx.headK s).1 : Int), .int .i64 ((Hx.headD s).1 : Int), .slice ao ps.length cap], .int .i64 0, .int .i64 0]) (by simp [results, Tryd.results31, go_sem, e0, e1, e2, e3]) rfl ?_
          have hlt3 : w.heap.size < w0.heap.size := by rw [unhide HS0]; omega
          refine ⟨((((unhide HB14).setCell hle _).setCell hle _).setCell hle _).setCell hle _, Or.inr ⟨unhide hfin, _, rfl, ?_⟩⟩
          rw [← unhide HPR]
          exact Plts.mono ((((unhide HPL4).set hlt3 _ _).set hlt3 _ _).set hlt3 _ _ |>.set hlt3 _ _) (by omega)
        · have hfin : Hid (Hx.checkF s = (4, 0)) := by show _ = _; rw [unhide HV, Hx.verdict, unhide HFW]; simp [hmb]
          clear hmb
          go_wp2_with fail
          refine bodyPost_ret (v := .tuple #[.agg #[.int .i64 0, .int .i64 0, .int .i64 0, .slice none 0 0], .int .i64 4, .int .i64 0]) (by simp [results, Tryd.results31, go_sem, e0, e1, e2, e3]) rfl ?_
          exact ⟨((((unhide HB14).setCell hle _).setCell hle _).setCell hle _).setCell hle _, Or.inl ⟨by rw [unhide hfin]; simp, by rw [unhide hfin]; rfl⟩⟩

set_option maxRecDepth 100000 in
set_option maxHeartbeats 2000000 in
theorem check_any (s : ByteArray) (w : World) (hs : s.size ≤ maxLen) (ht : Tab w) :
    Calls Tryd.prog 14 #[.string s] w fun e w' => e = .returned (.tuple #[.int .i64 ((Hx.checkF s).1 : Int), .int .i64 ((Hx.checkF s).2 : Int)]) ∧ Below w.heap.size w w' := by
  have HT := hide ht
  clear ht
  go_enter Tryd.func14, Tryd.ntmps14
  go_wp2_with fail
  refine (checked_any s w hs (unhide HT)).mono ?_
  rintro e w1 ⟨hb1, h1⟩
  have HB1 := hide hb1
  clear hb1
  rcases h1 with ⟨_, rfl⟩ | ⟨hok, v, rfl, hpl⟩
  · go_wp2_with fail
    go_returns
    exact ⟨rfl, (unhide HB1).alloc (unhide HB1).size _⟩
  · obtain ⟨ao, cap, rfl⟩ : ∃ ao cap, v = .slice ao (Hx.protF s).2.length cap := by
      obtain ⟨vs, h1, _⟩ := hpl
      exact own_form h1
    have HOK := hide hok
    clear hok hpl
    go_wp2_with fail
    go_returns
    exact ⟨by rw [unhide HOK]; rfl, (unhide HB1).alloc (unhide HB1).size _⟩

end Go.Proofs.YtppcnlkhdgmaiaaDoor
namespace Go.Proofs.YtppcnlkhdgmaiaaDoor
open Go.RowKit

theorem Tab.below {w w' : World} (h : Tab w) (hb : Below w.heap.size w w') : Tab w' := fun i hi => by
  have h1 := h i hi
  rw [hb.cell (World.block_lt_of_cell? w ⟨1, i, none⟩ h1)]; exact h1

/-- The script's cells: of each step its kind, its number, its two texts. -/
def Scr (w : World) (b off len : Nat) : Prop := ∀ i, i < len → ∃ (k n : Int) (s t : ByteArray), w.cell? ⟨b, off + i * 4, none⟩ = some (.int .i64 k) ∧ w.cell? ⟨b, off + i * 4 + 1, none⟩ = some (.int .i64 n) ∧ w.cell? ⟨b, off + i * 4 + 2, none⟩ = some (.string s) ∧ w.cell? ⟨b, off + i * 4 + 3, none⟩ = some (.string t) ∧ s.size ≤ maxLen ∧ t.size ≤ maxLen

/-- What holds of memory, whatever is laid besides. -/
def Lasts (E : World → Prop) : Prop := ∀ w w' : World, E w → Below w.heap.size w w' → E w'
theorem Lasts.alloc {E : World → Prop} (h : Lasts E) {w : World} (hw : E w) (o : Obj) : E (w.alloc o) := h w _ hw ((Below.refl _ _).alloc (Nat.le_refl _) o)
theorem lasts_tab : Lasts Tab := fun _ _ h hb => h.below hb

end Go.Proofs.YtppcnlkhdgmaiaaDoor
namespace Go.Proofs.YtppcnlkhdgmaiaaDoor
open Go.ChangeShapes Go.WideShapes Go.ChangeAt Go.RowKit Go.Deep

theorem own : ownKnob Tryd.prog.godebug = none := by kernel_rfl
theorem laidOut : laidOutB Tryd.prog = true := by kernel_rfl
theorem gTab : Tryd.prog.globalNamed "hatch/hatch.byteKinds" = some 1 := by kernel_rfl
theorem gTabType : (Tryd.prog.globals[1]?).map (·.type) = some 189 := by kernel_rfl
theorem cells189 : Tryd.prog.cellsOf 189 = 128 := by kernel_rfl
theorem cellsU8 : Tryd.prog.cellsOf 5 = 1 := by kernel_rfl
theorem cells3 : Tryd.prog.cellsOf 3 = 1 := by kernel_rfl
theorem cells9 : Tryd.prog.cellsOf 9 = 1 := by kernel_rfl

def tabNums : List Int := [0, 0, 0, 0, 0, 0, 0, 0, 0, 0, 0, 0, 0, 0, 0, 0, 0, 0, 0, 0, 0, 0, 0, 0, 0, 0, 0, 0, 0, 0, 0, 0, 0, 0, 0, 0, 0, 0, 0, 0, 0, 0, 0, 9, 5, 9, 0, 9, 1, 2, 2, 2, 2, 2, 2, 2, 2, 2, 9, 9, 7, 9, 8, 0, 9, 0, 0, 0, 0, 0, 0, 0, 0, 0, 0, 0, 0, 0, 0, 0, 0, 0, 0, 0, 0, 0, 0, 0, 0, 0, 0, 0, 0, 0, 0, 0, 0, 3, 3, 3, 3, 4, 4, 4, 4, 4, 4, 4, 4, 4, 4, 4, 4, 4, 4, 4, 4, 4, 4, 4, 4, 4, 4, 0, 0, 0, 6, 0]
theorem tabNums_kind : ∀ i : Nat, i < 128 → tabNums.getD i 0 = (Hx.kindOf i : Int) := by decide

end Go.Proofs.YtppcnlkhdgmaiaaDoor
namespace Go.Proofs.YtppcnlkhdgmaiaaDoor
namespace Hx
-- of RfA
/-- A byte from lo to hi must come. -/
def oneF (s : ByteArray) (lo hi : Nat) (st : St) : Nat × St := if st.bad = true ∨ byteAt s st.pos < lo ∨ hi < byteAt s st.pos then (0, ⟨st.pos, true⟩) else (byteAt s st.pos - lo, ⟨st.pos + 1, false⟩)
theorem oneF_bad {s : ByteArray} {lo hi : Nat} {st : St} (h : st.bad = true) : oneF s lo hi st = (0, ⟨st.pos, true⟩) := by simp [oneF, h]
theorem oneF_no {s : ByteArray} {lo hi : Nat} {st : St} (h : byteAt s st.pos < lo ∨ hi < byteAt s st.pos) : oneF s lo hi st = (0, ⟨st.pos, true⟩) := by simp [oneF, h]
theorem oneF_yes {s : ByteArray} {lo hi : Nat} {st : St} (h : st.bad = false) (h1 : lo ≤ byteAt s st.pos) (h2 : byteAt s st.pos ≤ hi) : oneF s lo hi st = (byteAt s st.pos - lo, ⟨st.pos + 1, false⟩) := by
  have : ¬ (st.bad = true ∨ byteAt s st.pos < lo ∨ hi < byteAt s st.pos) := by simp [h]; omega
  rw [oneF, if_neg this]

-- of RfB
/-- The number, by its first digit. -/
theorem numF_one {s : ByteArray} {most : Nat} {st : St} (hm : 1 ≤ most) :
    ((oneF s 48 57 st).1 = 0 ∧ (0, (oneF s 48 57 st).2) = numF s most st) ∨
    (0 < (oneF s 48 57 st).1 ∧ (oneF s 48 57 st).1 < 10 ∧ (oneF s 48 57 st).2.bad = false ∧ ((digF s (most - 1) (oneF s 48 57 st).2.pos (oneF s 48 57 st).1).1, (⟨(digF s (most - 1) (oneF s 48 57 st).2.pos (oneF s 48 57 st).1).2, false⟩ : St)) = numF s most st) := by
  obtain ⟨pos, bad⟩ := st
  cases bad
  · by_cases h0 : byteAt s pos = 48
    · left
      rw [oneF_yes rfl (by simp only; omega) (by simp only; omega), numF_zero rfl h0]
      exact ⟨by simp only; omega, rfl⟩
    · by_cases h1 : 49 ≤ byteAt s pos ∧ byteAt s pos ≤ 57
      · right
        rw [oneF_yes rfl (by simp only; omega) (by simp only; omega), numF_dig rfl h1]
        obtain ⟨k, rfl⟩ : ∃ k, most = k + 1 := ⟨most - 1, by omega⟩
        refine ⟨by simp only; omega, by simp only; omega, rfl, ?_⟩
        rw [digF_step (k := k) (at_ := pos) (v := 0) (by omega)]
        simp
      · left
        rw [oneF_no (by simp only; omega), numF_no rfl (by simp only; omega)]
        exact ⟨rfl, rfl⟩
  · left
    rw [oneF_bad rfl, numF_bad rfl]
    exact ⟨rfl, rfl⟩
theorem oneF_le {s : ByteArray} {lo hi : Nat} {st : St} (hh : hi < 256) (h : st.pos ≤ s.size) : (oneF s lo hi st).2.pos ≤ s.size := by
  unfold oneF
  split
  · exact h
  · rename_i g
    have := byteAt_in (s := s) (i := st.pos) (by omega)
    show st.pos + 1 ≤ _; omega

-- of RgE
/-- Does this byte stand next? Then it is read. -/
def nextF (s : ByteArray) (c : Nat) (st : St) : Bool × St := if st.bad = false ∧ byteAt s st.pos = c then (true, ⟨st.pos + 1, false⟩) else (false, st)
theorem nextF_yes {s : ByteArray} {c p : Nat} (h : byteAt s p = c) : nextF s c ⟨p, false⟩ = (true, ⟨p + 1, false⟩) := by simp [nextF, h]
theorem nextF_no {s : ByteArray} {c : Nat} {st : St} (h : ¬ (st.bad = false ∧ byteAt s st.pos = c)) : nextF s c st = (false, st) := by rw [nextF, if_neg h]
theorem nextF_ge (s : ByteArray) (c : Nat) (st : St) : st.pos ≤ (nextF s c st).2.pos := by unfold nextF; split <;> simp
theorem oneF_ge (s : ByteArray) (lo hi : Nat) (st : St) : st.pos ≤ (oneF s lo hi st).2.pos := by unfold oneF; split <;> simp
/-- A step of a table. -/
structure TStp where
  pl : Nat
  no : Nat
  lo : Nat
  hi : Nat
  rest : Bool
  mn : Nat
  mx : Nat
  t : Nat
  out : Int
  inn : Int
/-- A table's rest, if there is one: its place, its bounds. -/
def trestF (s : ByteArray) (st : St) : (Bool × Int × Nat × Nat) × St :=
  let r := nextF s 60 st
  if r.1 then
    let o := oneF s 48 57 r.2
    let a := numF s 3 (takeF s 58 o.2)
    let b := numF s 3 (takeF s 45 a.2)
    ((true, (o.1 : Int), a.1, b.1), b.2)
  else ((false, -1, 0, 0), r.2)
/-- The place into which a plate goes, if there is one. -/
def tintoF (s : ByteArray) (st : St) : Int × St :=
  let r := nextF s 62 st
  if r.1 then (((oneF s 48 57 r.2).1 : Int), (oneF s 48 57 r.2).2) else (-1, r.2)
def tstepF (s : ByteArray) (st : St) : TStp × St :=
  let p := oneF s 97 100 (takeF s 59 st)
  let n := oneF s 48 57 p.2
  let t := numF s 5 (takeF s 64 n.2)
  let l := numF s 3 (takeF s 43 t.2)
  let h := numF s 3 (takeF s 45 l.2)
  let r := trestF s h.2
  let i := tintoF s r.2
  (⟨p.1, n.1, l.1, h.1, r.1.1, r.1.2.2.1, r.1.2.2.2, t.1, r.1.2.1, i.1⟩, i.2)
theorem tstepF_bad {s : ByteArray} {st : St} (h : (takeF s 59 st).bad = true) : (tstepF s st).2.bad = true := by
  have e1 : ∀ lo hi (x : St), x.bad = true → (oneF s lo hi x).2.bad = true := fun lo hi x hx => by rw [oneF_bad hx]
  have e2 : ∀ m (x : St), x.bad = true → (numF s m x).2.bad = true := fun m x hx => by rw [numF_bad hx]; exact hx
  have e3 : ∀ c (x : St), x.bad = true → (takeF s c x).bad = true := fun c x hx => by rw [takeF_bad hx]; exact hx
  have e4 : ∀ c (x : St), x.bad = true → nextF s c x = (false, x) := fun c x hx => nextF_no (by simp [hx])
  have h9 := e2 3 _ (e3 45 _ (e2 3 _ (e3 43 _ (e2 5 _ (e3 64 _ (e1 48 57 _ (e1 97 100 _ h)))))))
  have hr : ∀ x : St, x.bad = true → (trestF s x).2 = x := fun x hx => by simp only [trestF, e4 60 x hx]; rfl
  have hi : ∀ x : St, x.bad = true → (tintoF s x).2 = x := fun x hx => by simp only [tintoF, e4 62 x hx]; rfl
  show (tintoF s (trestF s _).2).2.bad = true
  rw [hr _ h9, hi _ h9]; exact h9
theorem trestF_ge (s : ByteArray) (st : St) : st.pos ≤ (trestF s st).2.pos := by
  have h := nextF_ge s 60 st
  by_cases hb : (nextF s 60 st).1 = true
  · simp only [trestF, if_pos hb]
    exact Nat.le_trans h (Nat.le_trans (oneF_ge s 48 57 _) (Nat.le_trans (takeF_ge s 58 _) (Nat.le_trans (numF_ge s 3 _) (Nat.le_trans (takeF_ge s 45 _) (numF_ge s 3 _)))))
  · simp only [trestF, if_neg hb]
    exact h
theorem tintoF_ge (s : ByteArray) (st : St) : st.pos ≤ (tintoF s st).2.pos := by
  have h := nextF_ge s 62 st
  by_cases hb : (nextF s 62 st).1 = true
  · simp only [tintoF, if_pos hb]
    exact Nat.le_trans h (oneF_ge s 48 57 _)
  · simp only [tintoF, if_neg hb]
    exact h
theorem tstepF_ge (s : ByteArray) (st : St) : (takeF s 59 st).pos ≤ (tstepF s st).2.pos :=
  Nat.le_trans (oneF_ge s 97 100 _) (Nat.le_trans (oneF_ge s 48 57 _) (Nat.le_trans (takeF_ge s 64 _) (Nat.le_trans (numF_ge s 5 _) (Nat.le_trans (takeF_ge s 43 _) (Nat.le_trans (numF_ge s 3 _) (Nat.le_trans (takeF_ge s 45 _) (Nat.le_trans (numF_ge s 3 _) (Nat.le_trans (trestF_ge s _) (tintoF_ge s _)))))))))
theorem tstepF_gt {s : ByteArray} {st : St} (h : (tstepF s st).2.bad = false) : st.pos < (tstepF s st).2.pos := by
  have hg := tstepF_ge s st
  cases hb : (takeF s 59 st).bad
  · obtain ⟨_, _, e⟩ := takeF_good hb
    rw [e] at hg
    exact hg
  · rw [tstepF_bad hb] at h; cases h
def mT (s : ByteArray) (st : St) : Nat := if st.bad = false ∧ st.pos < s.size then s.size - st.pos else 0
theorem mT_lt {s : ByteArray} {st : St} (h1 : st.bad = false) (h2 : st.pos < s.size) : mT s (tstepF s st).2 < mT s st := by
  have e : mT s st = s.size - st.pos := by simp [mT, h1, h2]
  rw [e]
  unfold mT
  split
  · rename_i g
    have := tstepF_gt g.1
    omega
  · omega
def tablesF (s : ByteArray) (st : St) (acc : List TStp) : St × List TStp :=
  if _h : st.bad = false ∧ st.pos < s.size then tablesF s (tstepF s st).2 (acc ++ [(tstepF s st).1]) else (st, acc)
termination_by mT s st
decreasing_by exact mT_lt _h.1 _h.2
theorem tablesF_more {s : ByteArray} {st : St} {acc : List TStp} (h1 : st.bad = false) (h2 : st.pos < s.size) : tablesF s st acc = tablesF s (tstepF s st).2 (acc ++ [(tstepF s st).1]) := by
  rw [tablesF, dif_pos ⟨h1, h2⟩]
theorem tablesF_end {s : ByteArray} {st : St} {acc : List TStp} (h : ¬ (st.bad = false ∧ st.pos < s.size)) : tablesF s st acc = (st, acc) := by
  rw [tablesF, dif_neg h]
def theadF (s : ByteArray) : Nat × St := numF s 1 (takeF s 106 ⟨0, false⟩)
def tableF (s : ByteArray) : St × List TStp := tablesF s (theadF s).2 []

-- of RgF
/-- The place in which a plate is behind these steps (-1: none), and how many of them are the plate's. -/
def holdF (l : List TStp) (p : Nat) : Int × Nat := l.foldl (fun a y => if y.pl = p then (y.inn, a.2 + 1) else a) (-1, 0)
theorem holdF_snoc (l : List TStp) (y : TStp) (p : Nat) : holdF (l ++ [y]) p = if y.pl = p then (y.inn, (holdF l p).2 + 1) else holdF l p := by simp [holdF]
theorem holdF_le (l : List TStp) (p : Nat) : (holdF l p).2 ≤ l.length := by
  have h : ∀ (l : List TStp) (a : Int × Nat), (l.foldl (fun a y => if y.pl = p then (y.inn, a.2 + 1) else a) a).2 ≤ a.2 + l.length := by
    intro l
    induction l with
    | nil => intro a; simp
    | cons y r ih =>
      intro a
      rw [List.foldl_cons, List.length_cons]
      by_cases hp : y.pl = p
      · rw [if_pos hp]
        have := ih (y.inn, a.2 + 1)
        simp only at this
        omega
      · rw [if_neg hp]
        have := ih a
        omega
  have := h l (-1, 0)
  unfold holdF
  simpa using this
/-- Is a step right by itself, and as to its own plate? -/
def ownRight (l : List TStp) (i : Nat) (x : TStp) : Bool :=
  x.no == (holdF (l.take i) x.pl).2 && !(x.lo == 0) && !decide (x.hi < x.lo) && !decide (x.mx < x.mn) && x.out == (holdF (l.take i) x.pl).1
/-- Is the place that a step names taken by plate a? -/
def clash (l : List TStp) (i : Nat) (x : TStp) (a : Nat) : Bool := !(a == x.pl) && (decide (0 ≤ x.inn) && (holdF (l.take i) a).1 == x.inn)
def rightF (l : List TStp) (i : Nat) : Bool :=
  match l[i]? with
  | none => false
  | some x => ownRight l i x && (List.range 4).all fun a => !clash l i x a

def firstF (l : List Int) (time : Int) (n : Nat) : Int := if h : n < l.length then (if time ≤ l[n] then (n : Int) else firstF l time (n + 1)) else -1
termination_by l.length - n

def joinedF (s t : ByteArray) : ByteArray := if s.toList.isEmpty then t else s ++ ⟨#[44]⟩ ++ t

/-- The first step that is not right, from place k on. -/
def wrongF (l : List TStp) (k : Nat) : Int × Int := if k < l.length then (if rightF l k then wrongF l (k + 1) else (9, (k : Int))) else (0, 0)
termination_by l.length - k
def lookF (s : ByteArray) : Int × Int := if 400 < s.size then (1, 0) else if (tableF s).1.bad then (2, ((tableF s).1.pos : Int)) else wrongF (tableF s).2 0


-- of RgJ
theorem nextF_in {s : ByteArray} {c : Nat} {st : St} (hc : c < 256) (h : (nextF s c st).1 = true) : st.bad = false ∧ byteAt s st.pos = c ∧ st.pos < s.size ∧ nextF s c st = (true, ⟨st.pos + 1, false⟩) := by
  unfold nextF at h ⊢
  split at h
  · rename_i g
    exact ⟨g.1, g.2, byteAt_in (by omega), by rw [if_pos g]⟩
  · cases h
/-- Numbers with commas. -/
def numsF (s : ByteArray) (st : St) (acc : List Nat) : List Nat × St :=
  if st.bad then (acc, st)
  else if _h : (nextF s 44 (numF s 3 st).2).1 = true then numsF s (nextF s 44 (numF s 3 st).2).2 (acc ++ [(numF s 3 st).1])
  else (acc ++ [(numF s 3 st).1], (nextF s 44 (numF s 3 st).2).2)
termination_by s.size - st.pos
decreasing_by
  obtain ⟨_, _, h3, h4⟩ := nextF_in (by omega) _h
  have := numF_ge s 3 st
  rw [h4]
  simp only
  omega
def numbersF (s : ByteArray) (c : Nat) (st : St) : List Nat × St :=
  if (c = 0 ∧ st.pos = s.size) ∨ (c ≠ 0 ∧ byteAt s st.pos = c) then ([], st) else numsF s st []

-- of RgL
theorem numsF_le {s : ByteArray} (n : Nat) : ∀ (st : St) (acc : List Nat), s.size - st.pos = n → st.pos ≤ s.size → (numsF s st acc).2.pos ≤ s.size := by
  induction n using Nat.strongRecOn with
  | ind n ih =>
    intro st acc hn h
    have hP := numF_le (s := s) (m := 3) (st := st) h
    have hG := numF_ge s 3 st
    rw [numsF]
    split
    · exact h
    · split
      · rename_i hq
        obtain ⟨_, _, h3, h4⟩ := nextF_in (by omega) hq
        rw [h4]
        exact ih (s.size - ((numF s 3 st).2.pos + 1)) (by omega) _ _ rfl (by simp only; omega)
      · rename_i hq
        have e : (nextF s 44 (numF s 3 st).2).2 = (numF s 3 st).2 := by
          unfold nextF at hq ⊢
          split
          · rename_i g; rw [if_pos g] at hq; exact absurd rfl hq
          · rfl
        simp only [e]
        exact hP
theorem numbersF_le {s : ByteArray} {c : Nat} {st : St} (h : st.pos ≤ s.size) : (numbersF s c st).2.pos ≤ s.size := by
  unfold numbersF
  split
  · exact h
  · exact numsF_le _ st [] rfl h
def scr1 (s : ByteArray) : List Nat × St := numbersF s 47 ⟨0, false⟩
def scr2 (s : ByteArray) : List Nat × St := numbersF s 0 (takeF s 47 (scr1 s).2)
def scrOk (s : ByteArray) : Bool := !(scr2 s).2.bad && (scr2 s).2.pos == s.size

end Hx
end Go.Proofs.YtppcnlkhdgmaiaaDoor
