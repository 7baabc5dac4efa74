/- What the tests of a parsed protocol do: isWrong, firstWrongStep, hasTooMany. -/
import Derived.Test.YtppcnlkhdgmaiaaGreatDoorRdE
namespace Go.Proofs.YtppcnlkhdgmaiaaGreatDoor
open Go.RowKit

set_option maxHeartbeats 1000000 in
theorem wrong_any (x : Hx.Stp) (ki : Int) (k : Nat) (w : World) (hk : ki = (k : Int)) :
    Calls Tryz.prog 70 #[.agg #[.int .i64 (x.lo : Int), .int .i64 (x.hi : Int), .bool x.rest, .int .i64 (x.mn : Int), .int .i64 (x.mx : Int)], .int .i64 ki] w fun e w' => e = .returned (.bool (Hx.wrongB k x)) ∧ Below w.heap.size w w' := by
  obtain ⟨lo, hi, rest, mn, mx⟩ := x
  simp only
  subst hk
  by_cases h1 : lo = 0
  · have e : Hid (Hx.wrongB k ⟨lo, hi, rest, mn, mx⟩ = true) := by show _ = _; simp [Hx.wrongB, h1]
    have h1' : ((lo : Int) == 0) = true := by simp [h1]
    clear h1
    go_enter Tryz.func70, Tryz.ntmps70
    go_wp2
    go_returns
    exact ⟨by rw [unhide e]; rfl, (Below.refl _ _).alloc (Nat.le_refl _) _⟩
  · have h1' : ((lo : Int) == 0) = false := by simp; omega
    by_cases h2 : hi < lo
    · have e : Hid (Hx.wrongB k ⟨lo, hi, rest, mn, mx⟩ = true) := by show _ = _; simp [Hx.wrongB, h2]
      have h2' : (hi : Int) < (lo : Int) := by omega
      clear h1 h2
      go_enter Tryz.func70, Tryz.ntmps70
      go_wp2
      go_returns
      exact ⟨by rw [unhide e]; rfl, (Below.refl _ _).alloc (Nat.le_refl _) _⟩
    · have h2' : ¬ (hi : Int) < (lo : Int) := by omega
      cases rest
      · have e : Hid (Hx.wrongB k ⟨lo, hi, false, mn, mx⟩ = false) := by show _ = _; simp [Hx.wrongB]; omega
        clear h1 h2
        go_enter Tryz.func70, Tryz.ntmps70
        go_wp2
        go_returns
        exact ⟨by rw [unhide e]; rfl, (Below.refl _ _).alloc (Nat.le_refl _) _⟩
      · by_cases h3 : k = 0
        · have e : Hid (Hx.wrongB k ⟨lo, hi, true, mn, mx⟩ = true) := by show _ = _; simp [Hx.wrongB, h3]
          have h3' : ((k : Int) == 0) = true := by simp [h3]
          clear h1 h2 h3
          go_enter Tryz.func70, Tryz.ntmps70
          go_wp2
          go_returns
          exact ⟨by rw [unhide e]; rfl, (Below.refl _ _).alloc (Nat.le_refl _) _⟩
        · have e : Hid (Hx.wrongB k ⟨lo, hi, true, mn, mx⟩ = decide (mx < mn)) := by
            show _ = _
            have e1 : (lo == 0) = false := by simp; omega
            have e2 : decide (hi < lo) = false := by simp; omega
            have e3 : (k == 0) = false := by simp; omega
            simp [Hx.wrongB, e1, e2, e3]
          have h3' : ((k : Int) == 0) = false := by simp; omega
          clear h1 h2 h3
          go_enter Tryz.func70, Tryz.ntmps70
          go_wp2
          go_returns
          exact ⟨by rw [unhide e]; rfl, (Below.refl _ _).alloc (Nat.le_refl _) _⟩

theorem accCells_at (acc : List Hx.Stp) (j : Nat) (x : Hx.Stp) (h : acc[j]? = some x) (t : Nat) (ht : t < 5) : (accCells acc)[j * 5 + t]? = (stpCells x)[t]? := by
  induction acc generalizing j with
  | nil => simp at h
  | cons y r ih =>
    have e : accCells (y :: r) = stpCells y ++ accCells r := rfl
    rw [e]
    have hl : (stpCells y).length = 5 := rfl
    cases j with
    | zero =>
      simp at h
      subst h
      rw [Nat.zero_mul, Nat.zero_add, List.getElem?_append_left (by omega)]
    | succ j =>
      rw [List.getElem?_append_right (by omega), hl, show (j + 1) * 5 + t - 5 = j * 5 + t by omega]
      exact ih j (by simpa using h)

theorem own_pos {w : World} {base : Nat} {e : TypeId} {size : Nat} {v : Value} {n : Nat} {xs : List Value} (h : w.ownsRow base e size v n xs) (hn : 0 < n) : ∃ g cap, v = .slice (some ⟨g, 0, none⟩) n cap ∧ base ≤ g ∧ g < w.heap.size := by
  rcases h.2 with ⟨_, h0⟩ | ⟨g, cap, cur, rfl, hb, hh, _⟩
  · omega
  · exact ⟨g, cap, rfl, hb, lt_of_block hh⟩

/-- What a slice of steps reads as, cell by cell. -/
theorem own_step {w : World} {base g n cap : Nat} {p : List Hx.Stp} (h : w.ownsRow base 57 5 (.slice (some ⟨g, 0, none⟩) n cap) n (accCells p)) (hn : n = p.length) (j : Nat) (x : Hx.Stp) (hx : p[j]? = some x) (t : Nat) (ht : t < 5) :
    w.cell? ⟨g, j * 5 + t, none⟩ = (stpCells x)[t]? := by
  have hj : j < p.length := by
    by_cases e : j < p.length
    · exact e
    · rw [List.getElem?_eq_none (by omega)] at hx; cases hx
  rw [h.cellAt (j * 5 + t) (by omega), accCells_at p j x hx t ht]

theorem flat_take {α : Type} (ps : List (List α)) (k : Nat) (p : List α) (h : ps[k]? = some p) : (ps.take (k + 1)).flatten = (ps.take k).flatten ++ p := by
  rw [List.take_add_one, h]; simp
theorem flat_split {α : Type} (ps : List (List α)) (k : Nat) (p : List α) (h : ps[k]? = some p) : ps.flatten = (ps.take k).flatten ++ (p ++ (ps.drop (k + 1)).flatten) := by
  have e : ps = ps.take k ++ (p :: ps.drop (k + 1)) := by
    have hk : k < ps.length := by
      by_cases e : k < ps.length
      · exact e
      · rw [List.getElem?_eq_none (by omega)] at h; cases h
    have hp : ps[k] = p := by rw [List.getElem?_eq_getElem hk] at h; exact Option.some.inj h
    rw [← hp, ← List.drop_eq_getElem_cons hk, List.take_append_drop]
  conv => lhs; rw [e]
  simp
theorem cons_split {α : Type} (p : List α) (m : Nat) (x : α) (h : p[m]? = some x) : p = p.take m ++ (x :: p.drop (m + 1)) := by
  have hk : m < p.length := by
    by_cases e : m < p.length
    · exact e
    · rw [List.getElem?_eq_none (by omega)] at h; cases h
  have hp : p[m] = x := by rw [List.getElem?_eq_getElem hk] at h; exact Option.some.inj h
  rw [← hp, ← List.drop_eq_getElem_cons hk, List.take_append_drop]
theorem first_at {K : Nat} {ps : List (List Hx.Stp)} {k m : Nat} {p : List Hx.Stp} {x : Hx.Stp} (hp : ps[k]? = some p) (hx : p[m]? = some x) (h1 : ∀ y ∈ (ps.take k).flatten, Hx.wrongB K y = false) (h2 : ∀ y ∈ p.take m, Hx.wrongB K y = false)
    (hw : Hx.wrongB K x = true) : Hx.firstWrong K ps = some ((ps.take k).flatten.length + m) := by
  have hm : m ≤ p.length := by
    by_cases e : m < p.length
    · omega
    · rw [List.getElem?_eq_none (by omega)] at hx; cases hx
  unfold Hx.firstWrong
  rw [flat_split ps k p hp, List.findIdx?_append, List.findIdx?_eq_none_iff.2 h1, Option.none_or, List.findIdx?_append]
  conv => lhs; rw [cons_split p m x hx]
  rw [List.findIdx?_append, List.findIdx?_eq_none_iff.2 h2, Option.none_or, List.findIdx?_cons, if_pos hw]
  simp [Nat.min_eq_left hm]; omega
theorem first_none {K : Nat} {ps : List (List Hx.Stp)} (h : ∀ y ∈ ps.flatten, Hx.wrongB K y = false) : Hx.firstWrong K ps = none := List.findIdx?_eq_none_iff.2 h
theorem flat_le {ps : List (List Hx.Stp)} (h : ∀ p ∈ ps, p.length ≤ 121) (k : Nat) : (ps.take k).flatten.length ≤ k * 121 := by
  induction k generalizing ps with
  | zero => simp
  | succ k ih =>
    cases ps with
    | nil => simp
    | cons p r =>
      have h1 := h p (by simp)
      have h2 := ih (ps := r) (fun q hq => h q (by simp [hq]))
      simp only [List.take_succ_cons, List.flatten_cons, List.length_append]
      omega

set_option maxHeartbeats 2000000 in
theorem first_any (J K D : Nat) (v : Value) (base : Nat) (ps : List (List Hx.Stp)) (w : World) (hps : Plts w base v ps) (hn : 0 < ps.length) (hl : ps.length ≤ 121) (hne : ∀ p ∈ ps, 0 < p.length) :
    Calls Tryz.prog 41 #[.agg #[.int .i64 (J : Int), .int .i64 (K : Int), .int .i64 (D : Int), v]] w fun e w' => e = .returned (.tuple #[.int .i64 (((Hx.firstWrong K ps).getD 0 : Nat) : Int), .bool (Hx.firstWrong K ps).isSome]) ∧ Below w.heap.size w w' := by
  obtain ⟨vs, hvs, hpp⟩ := hps
  obtain ⟨g, cap, rfl, _, hg⟩ := own_pos hvs hn
  have HFL : Hid (∀ k, (ps.take k).flatten.length ≤ k * 121) := fun k => flat_le (fun p hp => by
    obtain ⟨i, hi⟩ := List.getElem?_of_mem hp
    obtain ⟨_, _, _, h⟩ := hpp i p hi
    exact h) k
  have HVS := hide hvs
  have HPP := hide hpp
  have HNE := hide hne
  clear hvs hpp hne
  go_enter Tryz.func41, Tryz.ntmps41
  go_wp2_with fail
  go_loopg [4, 12] ps.length (fun gk num i wr => ∃ k : Nat, k ≤ ps.length ∧ gk = ps.length - k ∧ i = .int .i64 (k : Int) ∧ num = .int .i64 (((ps.take k).flatten.length : Nat) : Int) ∧ (∀ x ∈ (ps.take k).flatten, Hx.wrongB K x = false) ∧ Below w.heap.size w wr ∧ wr.heap[w.heap.size]? = some (.cells #[.int .i64 (J : Int), .int .i64 (K : Int), .int .i64 (D : Int), .slice (some ⟨g, 0, none⟩) ps.length cap] 44 (0, 0)))
  case atStart => exact ⟨0, Nat.zero_le _, rfl, rfl, rfl, by simp, (Below.refl _ _).alloc (Nat.le_refl _) _, blk_new _ _ _⟩
  case round =>
    obtain ⟨k, hk, rfl, rfl, rfl, hall, hbe, hbox⟩ := hrel
    have HALL := hide hall
    have HBE := hide hbe
    have HBOX := hide hbox
    clear hall hbe hbox
    by_cases hlt : k < ps.length
    · obtain ⟨p, hp⟩ : ∃ p, ps[k]? = some p := ⟨ps[k], List.getElem?_eq_getElem hlt⟩
      obtain ⟨u, hu, hou, hp121⟩ := unhide HPP k p hp
      have hp0 : 0 < p.length := unhide HNE p (List.mem_of_getElem? hp)
      obtain ⟨g2, cap2, rfl, _, hg2⟩ := own_pos hou hp0
      have cP : wr.cell? ⟨g, k, none⟩ = some (.slice (some ⟨g2, 0, none⟩) p.length cap2) := by
        rw [(unhide HBE).cell (p := ⟨g, k, none⟩) hg, (unhide HVS).cellAt k (by omega)]; exact hu
      have hfk := unhide HFL k
      have HOU := hide hou
      have HP := hide hp
      clear hu hou hp
      obtain ⟨c, hc⟩ : ∃ c, c = (ps.take k).flatten.length := ⟨_, rfl⟩
      rw [← hc]
      rw [← hc] at hfk
      have HC := hide hc
      clear hc
      go_wp2_with fail
      clear cP
      go_loopg [4, 18] p.length (fun gk num j wr2 => ∃ m : Nat, m ≤ p.length ∧ gk = p.length - m ∧ j = .int .i64 (m : Int) ∧ num = .int .i64 ((c + m : Nat) : Int) ∧ (∀ x ∈ p.take m, Hx.wrongB K x = false) ∧ Below w.heap.size w wr2 ∧ wr2.heap[w.heap.size]? = some (.cells #[.int .i64 (J : Int), .int .i64 (K : Int), .int .i64 (D : Int), .slice (some ⟨g, 0, none⟩) ps.length cap] 44 (0, 0)))
      case atStart => exact ⟨0, Nat.zero_le _, rfl, rfl, rfl, by simp, unhide HBE, unhide HBOX⟩
      case round =>
        clear HBE HBOX
        obtain ⟨m, hm, rfl, rfl, rfl, hall2, hbe, hbox⟩ := hrel
        have HALL2 := hide hall2
        have HBE := hide hbe
        have b1 : wr.cell? ⟨w.heap.size, 1, none⟩ = some (.int .i64 (K : Int)) := blk_cell hbox 1
        have HBOX := hide hbox
        clear hall2 hbe hbox
        by_cases hml : m < p.length
        · obtain ⟨x, hx⟩ : ∃ x, p[m]? = some x := ⟨p[m], List.getElem?_eq_getElem hml⟩
          have HX := hide hx
          have cx : ∀ t, t < 5 → wr.cell? ⟨g2, m * 5 + t, none⟩ = (stpCells x)[t]? := fun t ht => by
            rw [(unhide HBE).cell (p := ⟨g2, m * 5 + t, none⟩) hg2]; exact own_step (unhide HOU) rfl m x hx t ht
          have x0 : wr.cell? ⟨g2, m * 5, none⟩ = some (.int .i64 (x.lo : Int)) := cx 0 (by omega)
          have x1 : wr.cell? ⟨g2, m * 5 + 1, none⟩ = some (.int .i64 (x.hi : Int)) := cx 1 (by omega)
          have x2 : wr.cell? ⟨g2, m * 5 + 2, none⟩ = some (.bool x.rest) := cx 2 (by omega)
          have x3 : wr.cell? ⟨g2, m * 5 + 3, none⟩ = some (.int .i64 (x.mn : Int)) := cx 3 (by omega)
          have x4 : wr.cell? ⟨g2, m * 5 + 4, none⟩ = some (.int .i64 (x.mx : Int)) := cx 4 (by omega)
          have b1a : (wr.alloc (.cells #[.int .i64 (x.lo : Int), .int .i64 (x.hi : Int), .bool x.rest, .int .i64 (x.mn : Int), .int .i64 (x.mx : Int)] 57)).cell? ⟨w.heap.size, 1, none⟩ = some (.int .i64 (K : Int)) := (grown_alloc wr _ none).cell b1 (by simp)
          clear hx cx
          cases hwr : Hx.wrongB K x
          · have HW := hide hwr
            clear hwr
            go_wp2_with fail
            refine (wrong_any x _ K _ rfl).mono ?_
            rw [unhide HW]
            rintro e w2 ⟨rfl, hb2⟩
            have HB2 := hide hb2
            clear hb2 x0 x1 x2 x3 x4 b1 b1a
            go_wp2_with fail
            go_roundg (p.length - (m + 1))
            case measure => omega
            case rel =>
              refine ⟨m + 1, by omega, rfl, by go_num, by go_num, ?_, ?_, ?_⟩
              · intro y hy
                rw [List.take_add_one, unhide HX] at hy
                simp at hy
                rcases hy with hy | rfl
                · exact unhide HALL2 y hy
                · exact unhide HW
              · exact ((unhide HBE).alloc (unhide HBE).size _).trans ((unhide HB2).mono (by have := (unhide HBE).size; simp; omega))
              · have h1 := blk_kept (unhide HBOX) (grown_alloc wr (.cells #[.int .i64 (x.lo : Int), .int .i64 (x.hi : Int), .bool x.rest, .int .i64 (x.mn : Int), .int .i64 (x.mx : Int)] 57) none) (by simp)
                rw [(unhide HB2).block w.heap.size (lt_of_block h1)]; exact h1
          · have hfin := hide (first_at (unhide HP) (unhide HX) (unhide HALL) (unhide HALL2) hwr)
            have HW := hide hwr
            clear hwr
            go_wp2_with fail
            refine (wrong_any x _ K _ rfl).mono ?_
            rw [unhide HW]
            rintro e w2 ⟨rfl, hb2⟩
            have HB2 := hide hb2
            clear hb2 x0 x1 x2 x3 x4 b1 b1a
            go_wp2_with fail
            go_returns
            refine ⟨by rw [unhide hfin, unhide HC]; rfl, ?_⟩
            exact ((unhide HBE).alloc (unhide HBE).size _).trans ((unhide HB2).mono (by have := (unhide HBE).size; simp; omega))
        · have hme : m = p.length := by omega
          have HNEW := hide (flat_take ps k p (unhide HP))
          have HME := hide hme
          clear hme b1
          go_wp2_with fail
          go_roundg (ps.length - (k + 1))
          case measure => omega
          case rel =>
            refine ⟨k + 1, by omega, rfl, by go_num, ?_, ?_, unhide HBE, unhide HBOX⟩
            · rw [unhide HNEW, List.length_append, ← unhide HC, ← unhide HME]
            · intro y hy
              rw [unhide HNEW] at hy
              rcases List.mem_append.1 hy with h | h
              · exact unhide HALL y h
              · have h2 := unhide HALL2
                rw [unhide HME, List.take_length] at h2
                exact h2 y h
    · have hke : k = ps.length := by omega
      have hfin : Hid (Hx.firstWrong K ps = none) := first_none (by
        have := unhide HALL
        rw [hke, List.take_length] at this
        exact this)
      clear hke
      go_wp2_with fail
      go_returns
      exact ⟨by rw [unhide hfin]; rfl, unhide HBE⟩

end Go.Proofs.YtppcnlkhdgmaiaaGreatDoor
