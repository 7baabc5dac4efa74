/- What held answers: that all steps of a table that ended done were as they should be. -/
import Derived.Test.YtppcnlkhdgmaiaaDoorCScE
import Derived.Test.YtppcnlkhdgmaiaaDoorCScV
import Derived.BigQuiet
namespace Go.Proofs.YtppcnlkhdgmaiaaDoor
open Go.RowKit

theorem flat_at {α : Type} (c : α → List Value) (m : Nat) (hc : ∀ x, (c x).length = m) (l : List α) (j : Nat) (x : α) (h : l[j]? = some x) (t : Nat) (ht : t < m) : (l.flatMap c)[j * m + t]? = (c x)[t]? := by
  induction l generalizing j with
  | nil => simp at h
  | cons y r ih =>
    rw [List.flatMap_cons]
    cases j with
    | zero =>
      simp at h
      subst h
      rw [Nat.zero_mul, Nat.zero_add, List.getElem?_append_left (by rw [hc]; exact ht)]
    | succ j =>
      rw [List.getElem?_append_right (by rw [hc, Nat.succ_mul]; omega), hc, show (j + 1) * m + t - m = j * m + t by rw [Nat.succ_mul]; omega]
      exact ih j (by simpa using h)
theorem mul_lt {j n m t : Nat} (hj : j < n) (ht : t < m) : j * m + t < n * m := by
  have : (j + 1) * m ≤ n * m := Nat.mul_le_mul_right m hj
  rw [Nat.succ_mul] at this
  omega
/-- What a row reads as, cell by cell. -/
theorem own_at {α : Type} (c : α → List Value) (m : Nat) (hc : ∀ x, (c x).length = m) {w : World} {base g n cap : Nat} {e : TypeId} {l : List α} (h : w.ownsRow base e m (.slice (some ⟨g, 0, none⟩) n cap) n (l.flatMap c)) (hn : n = l.length) (j : Nat) (x : α) (hx : l[j]? = some x) (t : Nat) (ht : t < m) :
    w.cell? ⟨g, j * m + t, none⟩ = (c x)[t]? := by
  have hj : j < l.length := (List.getElem?_eq_some_iff.1 hx).1
  rw [h.cellAt (j * m + t) (by rw [hn]; exact mul_lt hj ht), flat_at c m hc l j x hx t ht]

/-- The same memory, more drawn. -/
def Dr (w wr : World) : Prop := ∃ n, wr = w.drewN n
theorem Dr.refl (w : World) : Dr w w := ⟨0, rfl⟩
theorem Dr.more {w wr : World} (h : Dr w wr) (m : Nat) : Dr w (wr.drewN m) := by
  obtain ⟨n, rfl⟩ := h
  exact ⟨n + m, World.drewN_drewN _ _ _⟩
theorem Dr.drew {w wr : World} (h : Dr w wr) : Dr w wr.drew := h.more 1
theorem Dr.cell {w wr : World} (h : Dr w wr) (p : Addr) : wr.cell? p = w.cell? p := by
  obtain ⟨n, rfl⟩ := h
  rfl
theorem Dr.below {w wr : World} (h : Dr w wr) {a : World} {B : Nat} (hb : Below B a w) : Below B a wr := by
  obtain ⟨n, rfl⟩ := h
  exact below_drewN hb n

/-- P8: with done each step was as it should be. -/
structure Hx.HeldP (E : List Hx.Ent) (J : Nat) (V : List Hx.Evt) : Prop where
  len : V.length = E.length
  took : ∀ (k : Nat) (x : Hx.Ent) (y : Hx.Evt), E[k]? = some x → V[k]? = some y → (x.lo : Int) ≤ y.en - y.fr ∧ y.en - y.fr ≤ (x.hi : Int) ∧ (x.t : Int) ≤ y.fr ∧ (y.fr : Int) ≤ x.t + J
  rest : ∀ (k i : Nat) (x x' : Hx.Ent) (y y' : Hx.Evt), E[k]? = some x → V[k]? = some y → 0 ≤ x.out → i < k → E[i]? = some x' → V[i]? = some y' → x'.pl = x.pl → x'.no + 1 = x.no → (x.mn : Int) ≤ y.fr - y'.en ∧ (y.fr : Int) - y'.en ≤ x.mx
/-- Numbers that no sum overflows. -/
def Hx.EntS (E : List Hx.Ent) : Prop := ∀ x ∈ E, x.pl < 1000 ∧ x.no < 1000000000 ∧ x.t < 1000000000 ∧ x.lo < 1000000000 ∧ x.hi < 1000000000 ∧ x.mn < 1000000000 ∧ x.mx < 1000000000 ∧ -1 ≤ x.out ∧ x.out < 1000000000 ∧ -1 ≤ x.inn ∧ x.inn < 1000000000
def Hx.EvtS (V : List Hx.Evt) : Prop := ∀ y ∈ V, y.pl < 1000 ∧ y.no < 1000000000 ∧ y.fr < 1000000000 ∧ -1 ≤ y.en ∧ y.en < 1000000000

set_option maxRecDepth 100000 in
set_option maxHeartbeats 4000000 in
theorem held_any (E : List Hx.Ent) (J : Nat) (V : List Hx.Evt) (tv lv : Value) (w : World) (hJ : J < 1000000000) (hE : Hx.EntS E) (hV : Hx.EvtS V) (hl : E.length ≤ 1000000)
    (ht : w.ownsRow 0 55 9 tv E.length (entsCells E)) (hv : w.ownsRow 0 65 4 lv V.length (evtsCells V)) (hh : Hx.HeldP E J V) :
    Calls Tryd.prog 30 #[tv, .int .i64 (J : Int), lv] w fun e w' => e = .returned (.bool true) ∧ Dr w w' := by
  obtain ⟨ao, cap, rfl⟩ := own_form ht
  obtain ⟨bo, cap2, rfl⟩ := own_form hv
  have hlen := hh.len
  rw [hlen] at hv ⊢
  have HT := hide ht
  have HV := hide hv
  have HH := hide hh
  have HES := hide hE
  have HVS := hide hV
  have HLEN := hide hlen
  clear ht hv hh hE hV hlen
  go_enter Tryd.func30, Tryd.ntmps30
  go_wp2_with fail
  go_loopg [7] E.length (fun gk kk wr => ∃ k : Nat, k ≤ E.length ∧ gk = E.length - k ∧ kk = .int .i64 (k : Int) ∧ Hid (Dr w wr))
  case atStart => exact ⟨0, Nat.zero_le _, rfl, rfl, Dr.refl w⟩
  case round =>
    obtain ⟨k, hk, rfl, rfl, HW⟩ := hrel
    by_cases hlt : k < E.length
    · have hltI : (k : Int) < (E.length : Int) := by omega
      obtain ⟨x, hx⟩ : ∃ x, E[k]? = some x := ⟨E[k], List.getElem?_eq_getElem hlt⟩
      obtain ⟨y, hy⟩ : ∃ y, V[k]? = some y := ⟨V[k]'(by rw [unhide HLEN]; exact hlt), List.getElem?_eq_getElem _⟩
      obtain ⟨gt, capt, et, _, hgt⟩ := own_pos (unhide HT) (by omega)
      cases et
      obtain ⟨gv, capv, ev, _, hgv⟩ := own_pos (unhide HV) (by omega)
      cases ev
      have cx : ∀ t, t < 9 → wr.cell? ⟨gt, k * 9 + t, none⟩ = (entCells x)[t]? := fun t h => by rw [(unhide HW).cell]; exact own_at entCells 9 (fun _ => rfl) (unhide HT) rfl k x hx t h
      have cy : ∀ t, t < 4 → wr.cell? ⟨gv, k * 4 + t, none⟩ = (evtCells y)[t]? := fun t h => by rw [(unhide HW).cell]; exact own_at evtCells 4 (fun _ => rfl) (unhide HV) (unhide HLEN).symm k y hy t h
      have x2 : wr.cell? ⟨gt, k * 9 + 2, none⟩ = some (.int .i64 (x.t : Int)) := cx 2 (by omega)
      have x3 : wr.cell? ⟨gt, k * 9 + 3, none⟩ = some (.int .i64 (x.lo : Int)) := cx 3 (by omega)
      have x4 : wr.cell? ⟨gt, k * 9 + 4, none⟩ = some (.int .i64 (x.hi : Int)) := cx 4 (by omega)
      have x5 : wr.cell? ⟨gt, k * 9 + 5, none⟩ = some (.int .i64 x.out) := cx 5 (by omega)
      have y2 : wr.cell? ⟨gv, k * 4 + 2, none⟩ = some (.int .i64 (y.fr : Int)) := cy 2 (by omega)
      have y3 : wr.cell? ⟨gv, k * 4 + 3, none⟩ = some (.int .i64 y.en) := cy 3 (by omega)
      obtain ⟨q1, q2, q3, q4⟩ := (unhide HH).took k x y hx hy
      obtain ⟨s1, s2, s3, s4, s5, s6, s7, s8, s9, _, _⟩ := unhide HES x (List.mem_of_getElem? hx)
      obtain ⟨r1, r2, r3, r4, r5⟩ := unhide HVS y (List.mem_of_getElem? hy)
      have wt : IntKind.i64.wrap (y.en - (y.fr : Int)) = y.en - (y.fr : Int) := IntWalk.i64_in _ ⟨by omega, by omega⟩
      have d1 : decide (y.en - (y.fr : Int) < (x.lo : Int)) = false := by simp; omega
      have d2 : decide ((x.hi : Int) < y.en - (y.fr : Int)) = false := by simp; omega
      have d3 : decide (y.fr < x.t) = false := by simp; omega
      have d4 : decide ((x.t : Int) + (J : Int) < (y.fr : Int)) = false := by simp; omega
      have HX := hide hx
      have HY := hide hy
      clear cx cy hx hy q1 q2 q3 q4
      go_wp2_with fail
      go_quiet (fail)
      go_wp2_with fail
      go_quiet (fail)
      by_cases hout : 0 ≤ x.out
      · have x0 : wr.cell? ⟨gt, k * 9, none⟩ = some (.int .i64 (x.pl : Int)) := by have := own_at entCells 9 (fun _ => rfl) (unhide HT) rfl k x (unhide HX) 0 (by omega); rw [(unhide HW).cell]; exact this
        go_wp2_with fail
        go_loopg [9] k (fun gk ii wq => ∃ i : Nat, i ≤ k ∧ gk = k - i ∧ ii = .int .i64 (i : Int) ∧ Hid (Dr w wq))
        case atStart => exact ⟨0, Nat.zero_le _, rfl, rfl, by first | exact (unhide HW).more _ | exact ((unhide HW).more _).more _⟩
        case round =>
          clear x0 x2 x3 x4 x5 y2 y3 HW
          obtain ⟨i, hi, rfl, rfl, HW⟩ := hrel
          by_cases hik : i < k
          · have hikI : (i : Int) < (k : Int) := by omega
            obtain ⟨x', hx'⟩ : ∃ x, E[i]? = some x := ⟨E[i], List.getElem?_eq_getElem (by omega)⟩
            obtain ⟨y', hy'⟩ : ∃ y, V[i]? = some y := ⟨V[i]'(by rw [unhide HLEN]; omega), List.getElem?_eq_getElem _⟩
            have cx : ∀ t, t < 9 → wr.cell? ⟨gt, k * 9 + t, none⟩ = (entCells x)[t]? := fun t h => by rw [(unhide HW).cell]; exact own_at entCells 9 (fun _ => rfl) (unhide HT) rfl k x (unhide HX) t h
            have cy : ∀ t, t < 4 → wr.cell? ⟨gv, k * 4 + t, none⟩ = (evtCells y)[t]? := fun t h => by rw [(unhide HW).cell]; exact own_at evtCells 4 (fun _ => rfl) (unhide HV) (unhide HLEN).symm k y (unhide HY) t h
            have cx' : ∀ t, t < 9 → wr.cell? ⟨gt, i * 9 + t, none⟩ = (entCells x')[t]? := fun t h => by rw [(unhide HW).cell]; exact own_at entCells 9 (fun _ => rfl) (unhide HT) rfl i x' hx' t h
            have cy' : ∀ t, t < 4 → wr.cell? ⟨gv, i * 4 + t, none⟩ = (evtCells y')[t]? := fun t h => by rw [(unhide HW).cell]; exact own_at evtCells 4 (fun _ => rfl) (unhide HV) (unhide HLEN).symm i y' hy' t h
            have x0 : wr.cell? ⟨gt, k * 9, none⟩ = some (.int .i64 (x.pl : Int)) := cx 0 (by omega)
            have x1 : wr.cell? ⟨gt, k * 9 + 1, none⟩ = some (.int .i64 (x.no : Int)) := cx 1 (by omega)
            have x6 : wr.cell? ⟨gt, k * 9 + 6, none⟩ = some (.int .i64 (x.mn : Int)) := cx 6 (by omega)
            have x7 : wr.cell? ⟨gt, k * 9 + 7, none⟩ = some (.int .i64 (x.mx : Int)) := cx 7 (by omega)
            have y2 : wr.cell? ⟨gv, k * 4 + 2, none⟩ = some (.int .i64 (y.fr : Int)) := cy 2 (by omega)
            have z0 : wr.cell? ⟨gt, i * 9, none⟩ = some (.int .i64 (x'.pl : Int)) := cx' 0 (by omega)
            have z1 : wr.cell? ⟨gt, i * 9 + 1, none⟩ = some (.int .i64 (x'.no : Int)) := cx' 1 (by omega)
            have z3 : wr.cell? ⟨gv, i * 4 + 3, none⟩ = some (.int .i64 y'.en) := cy' 3 (by omega)
            obtain ⟨s1', s2', _⟩ := unhide HES x' (List.mem_of_getElem? hx')
            obtain ⟨r1', r2', r3', r4', r5'⟩ := unhide HVS y' (List.mem_of_getElem? hy')
            have hiE : (i : Int) < (E.length : Int) := by omega
            have HQ := hide ((unhide HH).rest k i x x' y y' (unhide HX) (unhide HY) hout hik hx' hy')
            clear cx cy cx' cy' hx' hy'
            by_cases hp : x'.pl = x.pl
            · have hpI : ((x'.pl : Int) == (x.pl : Int)) = true := by simp [hp]
              by_cases hn : x'.no + 1 = x.no
              · have hnI : ((x'.no : Int) + 1 == (x.no : Int)) = true := by simp; omega
                obtain ⟨q1, q2⟩ := unhide HQ hp hn
                have wq2 : IntKind.i64.wrap ((y.fr : Int) - y'.en) = (y.fr : Int) - y'.en := IntWalk.i64_in _ ⟨by omega, by omega⟩
                have e1 : decide ((y.fr : Int) - y'.en < (x.mn : Int)) = false := by simp; omega
                have e2 : decide ((x.mx : Int) < (y.fr : Int) - y'.en) = false := by simp; omega
                clear hp hn q1 q2
                go_wp2_with fail
                go_quiet (fail)
                go_wp2_with fail
                go_roundg (k - (i + 1))
                case measure => omega
                case rel => exact ⟨i + 1, by omega, rfl, by go_num, (unhide HW).more _⟩
              · have hnI : ((x'.no : Int) + 1 == (x.no : Int)) = false := by simp; omega
                clear hp hn
                go_wp2_with fail
                go_quiet (fail)
                go_wp2_with fail
                go_roundg (k - (i + 1))
                case measure => omega
                case rel => exact ⟨i + 1, by omega, rfl, by go_num, (unhide HW).more _⟩
            · have hpI : ((x'.pl : Int) == (x.pl : Int)) = false := by simp; omega
              clear hp
              go_wp2_with fail
              go_quiet (fail)
              go_wp2_with fail
              go_roundg (k - (i + 1))
              case measure => omega
              case rel => exact ⟨i + 1, by omega, rfl, by go_num, (unhide HW).more _⟩
          · have hikI : ¬ (i : Int) < (k : Int) := by omega
            go_wp2_with fail
            go_roundg (E.length - (k + 1))
            case measure => omega
            case rel => exact ⟨k + 1, by omega, rfl, by go_num, unhide HW⟩
      · go_wp2_with fail
        go_roundg (E.length - (k + 1))
        case measure => omega
        case rel => exact ⟨k + 1, by omega, rfl, by go_num, by first | exact (unhide HW).more _ | exact ((unhide HW).more _).more _⟩
    · have hltI : ¬ (k : Int) < (E.length : Int) := by omega
      go_wp2_with fail
      go_returns
      exact ⟨rfl, unhide HW⟩
end Go.Proofs.YtppcnlkhdgmaiaaDoor
