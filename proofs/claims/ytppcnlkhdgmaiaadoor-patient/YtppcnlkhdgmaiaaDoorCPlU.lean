/- What the document's list of orders does: Orders answers the least orders that begin with a list, at most so many. Is a step of a table right: right. What the tests of a table's step do: isWrong, fits, in exact worlds. The plain mathematics of orders: which steps may come next, that no beginning of an order is a dead end, the orders one behind the other with the word whether another follows. No program is named here. What the program's small functions of a turn do: moreResting, turnOf, apart, name. The library's contracts at this program: the Builder's String, strconv.Itoa, bits.Mul, slices.Contains. What the program writes: lowestFree, bounds.write. What the program writes: bounds.write. What slices.Repeat does at one number. -/
import Derived.Test.YtppcnlkhdgmaiaaDoorCRgC
import Derived.Test.YtppcnlkhdgmaiaaDoorCRfP
import Derived.Test.YtppcnlkhdgmaiaaDoorCRtB
import Derived.Test.YtppcnlkhdgmaiaaDoorCPg
import Derived.Test.YtppcnlkhdgmaiaaDoorCRfD
import Derived.Laws.BytesArg
import Derived.Shelf.Strings.Builder1
import Derived.Shelf.LaysM
import Derived.Shelf.Strconv.Itoa3
import Derived.Shelf.Bits.Mul64
import Derived.Shelf.Slices.Turned
import Derived.Test.YtppcnlkhdgmaiaaDoorProg
import Derived.Lib.AppendIntMem
import Derived.Lib.SmallJoins
import Derived.Deep.RegionHeld3
import Derived.Lib.ItoaLen
import Derived.Laws.CopyOwn
namespace Go.Proofs.YtppcnlkhdgmaiaaDoor
open Go.RowKit

namespace Hx
/-- All orders that begin with a list, the least first (d: how many steps are left). -/
def allO (K : Nat) (L : List Lst) : Nat → List Nat → List (List Nat)
  | 0, l => [l]
  | d + 1, l => (List.range L.length).flatMap fun i => if fitsF K L (l ++ [i]) 0 (fun _ => 0) then allO K L d (l ++ [i]) else []
/-- What one place adds. -/
def branch (K : Nat) (L : List Lst) (d : Nat) (l : List Nat) (i : Nat) : List (List Nat) := if fitsF K L (l ++ [i]) 0 (fun _ => 0) then allO K L d (l ++ [i]) else []
theorem allO_succ (K : Nat) (L : List Lst) (d : Nat) (l : List Nat) : allO K L (d + 1) l = (List.range L.length).flatMap (branch K L d l) := rfl
theorem range_flat {α : Type} (f : Nat → List α) (i : Nat) : (List.range (i + 1)).flatMap f = (List.range i).flatMap f ++ f i := by
  rw [List.range_succ, List.flatMap_append]; simp
theorem take_join {α : Type} (A B : List α) (m : Nat) : A.take m ++ B.take (m - (A.take m).length) = (A ++ B).take m := by
  rw [List.take_append, List.length_take]
  congr 1
  by_cases h : m ≤ A.length
  · rw [Nat.min_eq_left h, show m - A.length = 0 by omega, Nat.sub_self]
  · rw [Nat.min_eq_right (by omega)]
theorem take_full {α : Type} (A B : List α) (m : Nat) (h : m ≤ (A.take m).length) : (A ++ B).take m = A.take m := by
  rw [List.length_take] at h
  rw [List.take_append_of_le_length (by omega)]
theorem range_more {α : Type} (f : Nat → List α) (i n : Nat) (h : i ≤ n) : ∃ B, (List.range n).flatMap f = (List.range i).flatMap f ++ B := by
  obtain ⟨d, rfl⟩ : ∃ d, n = i + d := ⟨n - i, by omega⟩
  induction d with
  | zero => exact ⟨[], by simp⟩
  | succ d ih =>
    obtain ⟨B, hB⟩ := ih (by omega)
    exact ⟨B ++ f (i + d), by rw [show i + (d + 1) = (i + d) + 1 by omega, range_flat, hB, List.append_assoc]⟩
end Hx

theorem own_below {w w' : World} {base : Nat} {e : TypeId} {size : Nat} {v : Value} {n : Nat} {xs : List Value} (h : w.ownsRow base e size v n xs) (hb : Below w.heap.size w w') : w'.ownsRow base e size v n xs := by
  refine h.kept (row := none) ⟨hb.os, hb.tape, hb.output, hb.size, fun k hk _ => hb.block k hk⟩ ?_
  cases v.ownBlock
  · exact Or.inl rfl
  · exact Or.inr (by simp)
/-- A list of orders, as a slice of slices of numbers. -/
def Ords (w : World) (base : Nat) (v : Value) (os : List (List Nat)) : Prop :=
  ∃ vs : List Value, w.ownsRow base 49 1 v os.length vs ∧ ∀ (i : Nat) (o : List Nat), os[i]? = some o → ∃ u, vs[i]? = some u ∧ w.ownsRow 0 3 1 u o.length (ints (nats o))
theorem Ords.nil (w : World) (base : Nat) : Ords w base (.slice none 0 0) [] := ⟨[], World.ownsRow_nil _ _ _ _, by simp⟩
theorem Ords.below {w w' : World} {base : Nat} {v : Value} {os : List (List Nat)} (h : Ords w base v os) (hb : Below w.heap.size w w') : Ords w' base v os := by
  obtain ⟨vs, h1, h2⟩ := h
  refine ⟨vs, own_below h1 hb, fun i o ho => ?_⟩
  obtain ⟨u, e1, e2⟩ := h2 i o ho
  exact ⟨u, e1, own_below e2 hb⟩
theorem Ords.form {w : World} {base : Nat} {v : Value} {os : List (List Nat)} (h : Ords w base v os) : ∃ ao cap, v = .slice ao os.length cap := by
  obtain ⟨vs, h1, _⟩ := h
  exact own_form h1
theorem Ords.snoc {w w' : World} {base : Nat} {v v' u : Value} {os : List (List Nat)} {o : List Nat} {vs : List Value} (h : w.ownsRow base 49 1 v os.length vs)
    (h2 : ∀ (i : Nat) (o : List Nat), os[i]? = some o → ∃ u, vs[i]? = some u ∧ w.ownsRow 0 3 1 u o.length (ints (nats o))) (hu : w.ownsRow 0 3 1 u o.length (ints (nats o)))
    (hv' : w'.ownsRow base 49 1 v' (os.length + 1) (vs ++ [u])) (hg : w.grownBy w' v.ownBlock) : Ords w' base v' (os ++ [o]) := by
  have hlen : vs.length = os.length := by simpa using h.1
  refine ⟨vs ++ [u], by simpa using hv', fun i q hq => ?_⟩
  by_cases hi : i < os.length
  · rw [List.getElem?_append_left hi] at hq
    obtain ⟨x, e1, e2⟩ := h2 i q hq
    exact ⟨x, by rw [List.getElem?_append_left (by omega)]; exact e1, e2.kept hg (own_apart e2 h (by decide))⟩
  · rw [List.getElem?_append_right (by omega)] at hq
    have hi2 : i = os.length := by
      by_cases e : i - os.length = 0
      · omega
      · obtain ⟨k, hk⟩ := Nat.exists_eq_succ_of_ne_zero e
        rw [hk] at hq; simp at hq
    subst hi2
    simp at hq
    subst hq
    exact ⟨u, by rw [List.getElem?_append_right (by omega)]; simp [hlen], hu.kept hg (own_apart hu h (by decide))⟩

theorem Tryd.info49 : (Tryd.prog.info? 49).map (fun i => (i.zero, i.size, i.bytes)) = some (some (.slice none 0 0), 1, 24) := by kernel_rfl

theorem own_not_box {w : World} {base : Nat} {e T : TypeId} {size : Nat} {v : Value} {n b : Nat} {xs : List Value} {a : Array Value} {fr : Nat × Nat} (h : w.ownsRow base e size v n xs) (hb : w.heap[b]? = some (.cells a T fr)) (hne : e ≠ T) : v.ownBlock ≠ some b := by
  rcases h.2 with ⟨rfl, _⟩ | ⟨g, cap, cur, rfl, _, h4, _⟩
  · intro e; cases e
  · intro e
    have : g = b := by simpa [Value.ownBlock] using e
    subst this
    rw [h4] at hb
    simp at hb
    exact hne hb.2.1
theorem Below.box {w wr w' : World} {o : Obj} (h : wr.heap[w.heap.size]? = some o) (hb : Below wr.heap.size wr w') : w'.heap[w.heap.size]? = some o := (hb.block _ (lt_of_block h)).trans h

end Go.Proofs.YtppcnlkhdgmaiaaDoor
namespace Go.Proofs.YtppcnlkhdgmaiaaDoor
open Go.RowKit

theorem Hx.ownRight_no {l : List Hx.TStp} {i : Nat} {y : Hx.TStp} (h : y.no ≠ (Hx.holdF (l.take i) y.pl).2 ∨ y.lo = 0 ∨ y.hi < y.lo ∨ y.mx < y.mn ∨ y.out ≠ (Hx.holdF (l.take i) y.pl).1) : Hx.ownRight l i y = false := by
  unfold Hx.ownRight
  rcases h with h | h | h | h | h <;> simp [h]
theorem Hx.ownRight_yes {l : List Hx.TStp} {i : Nat} {y : Hx.TStp} (h1 : y.no = (Hx.holdF (l.take i) y.pl).2) (h2 : y.lo ≠ 0) (h3 : ¬ y.hi < y.lo) (h4 : ¬ y.mx < y.mn) (h5 : y.out = (Hx.holdF (l.take i) y.pl).1) : Hx.ownRight l i y = true := by
  unfold Hx.ownRight
  simp [← h1, h2, h3, h4, h5]

theorem range_all_succ (f : Nat → Bool) (k : Nat) : (List.range (k + 1)).all f = ((List.range k).all f && f k) := by
  rw [List.range_succ, List.all_append]; simp
theorem range_all_no (k n : Nat) (h : k < n) (f : Nat → Bool) (hf : f k = false) : (List.range n).all f = false := by
  cases hq : (List.range n).all f with
  | false => rfl
  | true =>
    rw [List.all_eq_true] at hq
    rw [hq k (List.mem_range.mpr h)] at hf
    cases hf

end Go.Proofs.YtppcnlkhdgmaiaaDoor
namespace Go.Proofs.YtppcnlkhdgmaiaaDoor
open Go.RowKit

/-- A step, as isWrong takes it: five cells. -/
abbrev stAgg (y : Hx.TStp) : Value := .agg #[.int .i64 (y.lo : Int), .int .i64 (y.hi : Int), .bool y.rest, .int .i64 (y.mn : Int), .int .i64 (y.mx : Int)]

set_option maxHeartbeats 1000000 in
theorem wrong_exact (y : Hx.TStp) (bw : Bool) (w : World) (hw : Hx.wrongB 10 ⟨y.lo, y.hi, y.rest, y.mn, y.mx⟩ = bw) :
    Calls Tryd.prog 67 #[stAgg y, .int .i64 10] w fun e w' => e = .returned (.bool bw) ∧ w' = w.alloc (.cells #[.int .i64 (y.lo : Int), .int .i64 (y.hi : Int), .bool y.rest, .int .i64 (y.mn : Int), .int .i64 (y.mx : Int)] 81) := by
  obtain ⟨ypl, yno, lo, hi, rest, mn, mx, tt, out, inn⟩ := y
  simp only at hw ⊢
  by_cases h1 : lo = 0
  · have e : Hid (true = bw) := by show _ = _; rw [← hw]; simp [Hx.wrongB, h1]
    have h1' : ((lo : Int) == 0) = true := by simp [h1]
    clear h1 hw
    go_enter Tryd.func67, Tryd.ntmps67
    go_wp2
    go_returns
    exact ⟨by rw [← unhide e]; rfl, rfl⟩
  · have h1' : ((lo : Int) == 0) = false := by simp; omega
    by_cases h2 : hi < lo
    · have e : Hid (true = bw) := by show _ = _; rw [← hw]; simp [Hx.wrongB, h2]
      have h2' : (hi : Int) < (lo : Int) := by omega
      clear h1 h2 hw
      go_enter Tryd.func67, Tryd.ntmps67
      go_wp2
      go_returns
      exact ⟨by rw [← unhide e]; rfl, rfl⟩
    · have h2' : ¬ (hi : Int) < (lo : Int) := by omega
      cases rest
      · have e : Hid (false = bw) := by show _ = _; rw [← hw]; simp [Hx.wrongB]; omega
        clear h1 h2 hw
        go_enter Tryd.func67, Tryd.ntmps67
        go_wp2
        go_returns
        exact ⟨by rw [← unhide e]; rfl, rfl⟩
      · have e : Hid (decide (mx < mn) = bw) := by
          show _ = _
          have e1 : (lo == 0) = false := by simp; omega
          have e2 : decide (hi < lo) = false := by simp; omega
          rw [← hw]
          simp [Hx.wrongB, e1, e2]
        clear h1 h2 hw
        go_enter Tryd.func67, Tryd.ntmps67
        go_wp2
        go_returns
        exact ⟨by rw [← unhide e]; simp, rfl⟩

/-- The block that fits takes its step into. -/
abbrev ptBlk (y : Hx.TStp) : Obj := .cells #[.int .i64 (y.lo : Int), .int .i64 (y.hi : Int), .bool y.rest, .int .i64 (y.mn : Int), .int .i64 (y.mx : Int), .int .i64 (y.pl : Int), .int .i64 (y.no : Int), .bool (decide (0 ≤ y.inn)), .int .i64 (y.t : Int), .int .i64 y.out, .int .i64 y.inn] 153

theorem fits_no {zs : List Int} {y : Hx.TStp} {k : Nat} (hk : k < zs.length) (h : Hx.clashL zs y k = true) : Hx.tfitF zs y = false := by
  rw [Hx.tfitF, range_all_no k zs.length hk _ (by rw [h]; rfl), Bool.and_false]

set_option maxRecDepth 100000 in
set_option maxHeartbeats 2000000 in
theorem fits_exact (y : Hx.TStp) (g c : Nat) (zs : List Int) (w : World) (hz : zs.length = 4) (hp : y.pl < 4) (bf : Bool) (hf : Hx.tfitF zs y = bf) (hc : ∀ j, j < 4 → w.cell? ⟨g, j, none⟩ = some (.int .i64 (zs.getD j 0))) :
    Calls Tryd.prog 79 #[ptAgg y, .slice (some ⟨g, 0, none⟩) 4 c] w fun e w' => e = .returned (.bool bf) ∧ ∃ n, w' = (w.alloc (ptBlk y)).drewN n := by
  obtain ⟨z, hzz⟩ : ∃ z, z = zs.getD y.pl 0 := ⟨_, rfl⟩
  have cp : ∀ o, (w.alloc o).cell? ⟨g, y.pl, none⟩ = some (.int .i64 z) := fun o => by rw [hzz]; exact (grown_alloc w o none).cell (hc y.pl hp) (by simp)
  have HZZ := hide hzz
  have hpI : (y.pl : Int) < 4 := by omega
  have HC := hide hc
  have HF := hide hf
  have HZ := hide hz
  clear hc hf hz hzz
  go_enter Tryd.func79, Tryd.ntmps79
  by_cases ho : y.out = z
  · have ho' : (y.out != z) = false := by rw [bne_eq_false_iff_eq]; exact ho
    have HO := hide ho
    clear ho
    go_wp2_with fail
    go_quiet (fail)
    go_wp2_with fail
    go_loopg [18] 4 (fun gk kk wr => ∃ k : Nat, k ≤ 4 ∧ gk = 4 - k ∧ kk = .int .i64 (k : Int) ∧ (∀ a, a < k → Hx.clashL zs y a = false) ∧ ∃ n, wr = (w.alloc (ptBlk y)).drewN n)
    case atStart => exact ⟨0, by omega, rfl, rfl, fun a h => absurd h (Nat.not_lt_zero a), _, rfl⟩
    case round =>
      obtain ⟨k, hk, rfl, rfl, hall, n, rfl⟩ := hrel
      have HALL := hide hall
      clear hall
      by_cases hlt : k < 4
      · obtain ⟨v, hv⟩ : ∃ v, v = zs.getD k 0 := ⟨_, rfl⟩
        have ck : ∀ o, (w.alloc o).cell? ⟨g, k, none⟩ = some (.int .i64 v) := fun o => by rw [hv]; exact (grown_alloc w o none).cell (unhide HC k hlt) (by simp)
        have HV := hide hv
        have hkI : (k : Int) < 4 := by omega
        clear hv
        by_cases h1 : k = y.pl
        · have h1' : ((k : Int) != (y.pl : Int)) = false := by simp [h1]
          have HN : Hid (∀ a, a < k + 1 → Hx.clashL zs y a = false) := fun a ha => by
            by_cases e : a = k
            · subst e; simp [Hx.clashL, h1]
            · exact unhide HALL a (by omega)
          clear h1
          go_wp2_with fail
          go_roundg (4 - (k + 1))
          case measure => omega
          case rel => exact ⟨k + 1, by omega, rfl, by go_num, unhide HN, _, rfl⟩
        · have h1' : ((k : Int) != (y.pl : Int)) = true := by simp; omega
          by_cases h2 : 0 ≤ y.inn
          · have h2' : decide (0 ≤ y.inn) = true := by simpa using h2
            by_cases h3 : v = y.inn
            · have h3' : (v == y.inn) = true := by simpa using h3
              have HE : Hid (false = bf) := by
                show _ = _
                rw [← unhide HF]
                refine (fits_no (k := k) (by rw [unhide HZ]; exact hlt) ?_).symm
                simp only [Hx.clashL]
                rw [← unhide HV, h3', h2', beq_eq_false_iff_ne.2 h1]; rfl
              clear h1 h2 h3
              go_wp2_with fail
              go_returns
              exact ⟨by rw [← unhide HE]; rfl, _, rfl⟩
            · have h3' : (v == y.inn) = false := by simpa using h3
              have HN : Hid (∀ a, a < k + 1 → Hx.clashL zs y a = false) := fun a ha => by
                by_cases e : a = k
                · subst e; simp only [Hx.clashL]; rw [← unhide HV, h3', Bool.and_false, Bool.and_false]
                · exact unhide HALL a (by omega)
              clear h1 h2 h3
              go_wp2_with fail
              go_roundg (4 - (k + 1))
              case measure => omega
              case rel => exact ⟨k + 1, by omega, rfl, by go_num, unhide HN, _, rfl⟩
          · have h2' : decide (0 ≤ y.inn) = false := by simpa using h2
            have HN : Hid (∀ a, a < k + 1 → Hx.clashL zs y a = false) := fun a ha => by
              by_cases e : a = k
              · subst e; simp only [Hx.clashL]; rw [h2', Bool.false_and, Bool.and_false]
              · exact unhide HALL a (by omega)
            clear h1 h2
            go_wp2_with fail
            go_roundg (4 - (k + 1))
            case measure => omega
            case rel => exact ⟨k + 1, by omega, rfl, by go_num, unhide HN, _, rfl⟩
      · have HE : Hid (true = bf) := by
          show _ = _
          rw [← unhide HF, Hx.tfitF, ← unhide HZZ, unhide HO, unhide HZ]
          simp only [beq_self_eq_true, Bool.true_and]
          symm
          rw [List.all_eq_true]
          intro a ha
          have := List.mem_range.1 ha
          rw [unhide HALL a (by omega)]; rfl
        have hkI : ¬ (k : Int) < 4 := by omega
        go_wp2_with fail
        go_returns
        exact ⟨by rw [← unhide HE]; rfl, _, rfl⟩
  · have ho' : (y.out != z) = true := by rw [bne_iff_ne]; exact ho
    have HE : Hid (false = bf) := by
      show _ = _
      rw [← unhide HF, Hx.tfitF, ← unhide HZZ, beq_eq_false_iff_ne.2 ho, Bool.false_and]
    clear ho
    go_wp2_with fail
    go_quiet (fail)
    go_wp2_with fail
    go_returns
    exact ⟨by rw [← unhide HE]; rfl, _, rfl⟩

end Go.Proofs.YtppcnlkhdgmaiaaDoor
namespace Go.Proofs.YtppcnlkhdgmaiaaDoor
namespace Hx

/-- What stands behind a list of steps: the rests under way, the plates' next numbers. -/
def endS (K : Nat) (L : List Lst) : List Nat → Int → (Nat → Nat) → Option (Int × (Nat → Nat))
  | [], r, nx => some (r, nx)
  | i :: l, r, nx => (fitStep K L r nx i).bind fun st => endS K L l st.1 st.2
theorem fitsF_endS (K : Nat) (L : List Lst) : ∀ (l : List Nat) (r : Int) (nx : Nat → Nat), fitsF K L l r nx = (endS K L l r nx).isSome
  | [], _, _ => rfl
  | i :: l, r, nx => by
    rw [fitsF, endS]
    cases fitStep K L r nx i with
    | none => rfl
    | some st => exact fitsF_endS K L l st.1 st.2
theorem endS_snoc (K : Nat) (L : List Lst) (i : Nat) : ∀ (l : List Nat) (r : Int) (nx : Nat → Nat), endS K L (l ++ [i]) r nx = (endS K L l r nx).bind fun st => fitStep K L st.1 st.2 i
  | [], r, nx => by
    rw [List.nil_append]
    show (fitStep K L r nx i).bind (fun st => some (st.1, st.2)) = fitStep K L r nx i
    cases fitStep K L r nx i <;> rfl
  | j :: l, r, nx => by
    rw [List.cons_append, endS, endS]
    cases fitStep K L r nx j with
    | none => rfl
    | some st => exact endS_snoc K L i l st.1 st.2
theorem branch_end {K : Nat} {L : List Lst} {l : List Nat} {r : Int} {nx : Nat → Nat} (h : endS K L l 0 (fun _ => 0) = some (r, nx)) (d i : Nat) :
    branch K L d l i = if (fitStep K L r nx i).isSome then allO K L d (l ++ [i]) else [] := by
  rw [branch, fitsF_endS, endS_snoc, h]; rfl

/-- Where a plate's steps begin among all. -/
def offP (ps : List (List Stp)) (p : Nat) : Nat := ((ps.take p).flatten).length
theorem offP_succ {ps : List (List Stp)} {p : Nat} {q : List Stp} (h : ps[p]? = some q) : offP ps (p + 1) = offP ps p + q.length := by
  simp [offP, List.take_add_one, h]
theorem offP_end (ps : List (List Stp)) : offP ps ps.length = (labs ps).length := by rw [offP, List.take_length, labs_len]
theorem labs_split {ps : List (List Stp)} {p : Nat} {q : List Stp} (h : ps[p]? = some q) : ∃ B, labs ps = labs (ps.take p) ++ lab p q ++ B := by
  have hp : p < ps.length := by
    by_cases e : p < ps.length
    · exact e
    · rw [List.getElem?_eq_none (by omega)] at h; cases h
  have e1 : ps = ps.take p ++ (q :: ps.drop (p + 1)) := by
    conv => lhs; rw [← List.take_append_drop p ps]
    rw [List.drop_eq_getElem_cons hp]
    rw [List.getElem?_eq_getElem hp] at h
    simp at h
    rw [h]
  refine ⟨((ps.drop (p + 1)).mapIdx fun i => lab (i + 1 + p)).flatten, ?_⟩
  have hl : (ps.take p).length = p := by simp; omega
  have e2 : labs ps = labs (ps.take p ++ (q :: ps.drop (p + 1))) := congrArg labs e1
  rw [e2]
  unfold labs
  rw [List.mapIdx_append, List.flatten_append, List.mapIdx_cons, List.flatten_cons, hl, List.append_assoc, Nat.zero_add]
theorem labs_at {ps : List (List Stp)} {p n : Nat} {q : List Stp} {x : Stp} (hq : ps[p]? = some q) (hx : q[n]? = some x) : (labs ps)[offP ps p + n]? = some ⟨p, n, x⟩ := by
  obtain ⟨B, hB⟩ := labs_split hq
  have hn : n < q.length := by
    by_cases e : n < q.length
    · exact e
    · rw [List.getElem?_eq_none (by omega)] at hx; cases hx
  have hl : (labs (ps.take p)).length = offP ps p := labs_len _
  have hl2 : (lab p q).length = q.length := by simp [lab]
  rw [hB, List.append_assoc, List.getElem?_append_right (by omega), hl, show offP ps p + n - offP ps p = n by omega, List.getElem?_append_left (by omega)]
  simp [lab, List.getElem?_mapIdx, hx]
theorem labs_inv {ps : List (List Stp)} {i : Nat} (h : i < (labs ps).length) : ∃ p n q x, ps[p]? = some q ∧ q[n]? = some x ∧ i = offP ps p + n := by
  rw [← offP_end] at h
  suffices hs : ∀ m, m ≤ ps.length → i < offP ps m → ∃ p n q x, ps[p]? = some q ∧ q[n]? = some x ∧ i = offP ps p + n from hs _ (Nat.le_refl _) h
  intro m
  induction m with
  | zero => intro _ h; simp [offP] at h
  | succ m ih =>
    intro hm hi
    have hq : ps[m]? = some (ps.getD m []) := by rw [List.getD_eq_getElem?_getD, List.getElem?_eq_getElem (by omega)]; rfl
    by_cases e : i < offP ps m
    · exact ih (by omega) e
    · rw [offP_succ hq] at hi
      exact ⟨m, i - offP ps m, _, _, hq, List.getElem?_eq_getElem (show i - offP ps m < _ by omega), by omega⟩
theorem range_flat_add {α : Type} (f : Nat → List α) (a b : Nat) : (List.range (a + b)).flatMap f = (List.range a).flatMap f ++ (List.range b).flatMap (fun n => f (a + n)) := by
  rw [List.range_add, List.flatMap_append, List.flatMap_map]
theorem range_plates {α : Type} (ps : List (List Stp)) (f : Nat → List α) : ∀ m, m ≤ ps.length → (List.range (offP ps m)).flatMap f = (List.range m).flatMap (fun p => (List.range (ps.getD p []).length).flatMap (fun n => f (offP ps p + n)))
  | 0, _ => by simp [offP]
  | m + 1, h => by
    have hq : ps[m]? = some (ps.getD m []) := by rw [List.getD_eq_getElem?_getD, List.getElem?_eq_getElem (by omega)]; rfl
    rw [offP_succ hq, range_flat_add, range_plates ps f m (by omega), List.range_succ, List.flatMap_append]
    simp
theorem range_one {α : Type} (g : Nat → List α) (a : Nat) : ∀ m, (∀ n, n < m → n ≠ a → g n = []) → (List.range m).flatMap g = if a < m then g a else []
  | 0, _ => by simp
  | m + 1, h => by
    rw [List.range_succ, List.flatMap_append, range_one g a m (fun n hn => h n (by omega))]
    by_cases e : m = a
    · subst e; simp
    · have hm := h m (by omega) e
      by_cases e2 : a < m
      · simp [e2, hm, show a < m + 1 by omega]
      · simp [e2, hm, show ¬ a < m + 1 by omega]

/-- A step at its place in an order. -/
structure Trn where
  x : Stp
  pl : Nat
  no : Nat
  beg : Bool
/-- Does a rest begin behind the step of this number? -/
def begB (q : List Stp) (n : Nat) : Bool := match q[n + 1]? with | some x => x.rest | none => false
def moreR (t : Trn) : Int := (if t.beg then 1 else 0) - (if t.x.rest then 1 else 0)
def turnAt (ps : List (List Stp)) (p n : Nat) : Option Trn := (ps[p]?).bind fun q => (q[n]?).map fun x => ⟨x, p, n, begB q n⟩
def nextAt (K : Nat) (ps : List (List Stp)) (r : Int) (nx : Nat → Nat) (p : Nat) : Option Trn :=
  match turnAt ps p (nx p) with
  | none => none
  | some t => if r + moreR t ≤ (K : Int) then some t else none
def nxtF (K : Nat) (ps : List (List Stp)) (r : Int) (nx : Nat → Nat) : List Trn := (List.range ps.length).filterMap (nextAt K ps r nx)
def idxT (ps : List (List Stp)) (t : Trn) : Nat := offP ps t.pl + t.no
def bump (nx : Nat → Nat) (p : Nat) : Nat → Nat := fun i => if i = p then nx i + 1 else nx i

/-- What is known of plates that are read: none is empty, no first step ends a rest. -/
def Fine (ps : List (List Stp)) : Prop := ∀ (p : Nat) (q : List Stp), ps[p]? = some q → ∃ (x : Stp) (r : List Stp), q = x :: r ∧ x.rest = false

theorem turnAt_some {ps : List (List Stp)} {p n : Nat} {t : Trn} (h : turnAt ps p n = some t) : ∃ q x, ps[p]? = some q ∧ q[n]? = some x ∧ t = ⟨x, p, n, begB q n⟩ := by
  unfold turnAt at h
  cases hq : ps[p]? with
  | none => rw [hq] at h; cases h
  | some q =>
    cases hx : q[n]? with
    | none => rw [hq] at h; simp [hx] at h
    | some x => rw [hq] at h; simp [hx] at h; exact ⟨q, x, rfl, hx, h.symm⟩
theorem getElem?_lt {α : Type} {l : List α} {i : Nat} {x : α} (h : l[i]? = some x) : i < l.length := by
  by_cases e : i < l.length
  · exact e
  · rw [List.getElem?_eq_none (by omega)] at h; cases h
theorem restAfter_at {ps : List (List Stp)} (hf : Fine ps) {p n : Nat} {q : List Stp} (hq : ps[p]? = some q) (hn : n < q.length) : restAfter (labs ps) (offP ps p + n) = begB q n := by
  unfold restAfter begB
  by_cases e : n + 1 < q.length
  · rw [show offP ps p + n + 1 = offP ps p + (n + 1) by omega, labs_at hq (List.getElem?_eq_getElem e), List.getElem?_eq_getElem e]
  · have hn1 : n + 1 = q.length := by omega
    rw [List.getElem?_eq_none (show q.length ≤ n + 1 by omega), show offP ps p + n + 1 = offP ps (p + 1) + 0 by rw [offP_succ hq]; omega]
    cases hq2 : ps[p + 1]? with
    | none =>
      have hl : ps.length ≤ p + 1 := by
        by_cases e2 : p + 1 < ps.length
        · rw [List.getElem?_eq_getElem e2] at hq2; cases hq2
        · omega
      have := getElem?_lt hq
      have e3 : p + 1 = ps.length := by omega
      rw [e3, offP_end, Nat.add_zero, List.getElem?_eq_none (Nat.le_refl _)]
    | some q2 =>
      obtain ⟨x, r, rfl, hx⟩ := hf _ _ hq2
      rw [labs_at hq2 (show (x :: r)[0]? = some x from rfl)]
      exact hx
theorem fitStep_at {K : Nat} {ps : List (List Stp)} (hf : Fine ps) {r : Int} {nx : Nat → Nat} {p n : Nat} {q : List Stp} {x : Stp} (hq : ps[p]? = some q) (hx : q[n]? = some x) :
    fitStep K (labs ps) r nx (offP ps p + n) = if n = nx p then (if r + moreR ⟨x, p, n, begB q n⟩ ≤ (K : Int) then some (r + moreR ⟨x, p, n, begB q n⟩, bump nx p) else none) else none := by
  unfold fitStep
  rw [labs_at hq hx]
  simp only
  by_cases e : n = nx p
  · rw [if_pos e, if_pos e, restAfter_at hf hq (getElem?_lt hx)]
    have em : r - (if x.rest then 1 else 0) + (if begB q n then 1 else 0) = r + moreR ⟨x, p, n, begB q n⟩ := by simp only [moreR]; omega
    rw [em]
    by_cases h : r + moreR ⟨x, p, n, begB q n⟩ ≤ (K : Int)
    · rw [if_pos h, if_neg (by omega)]; rfl
    · rw [if_neg h, if_pos (by omega)]
  · rw [if_neg e, if_neg e]
theorem nextAt_fit {K : Nat} {ps : List (List Stp)} (hf : Fine ps) {r : Int} {nx : Nat → Nat} {p : Nat} {t : Trn} (h : nextAt K ps r nx p = some t) :
    t.pl = p ∧ t.no = nx p ∧ turnAt ps p (nx p) = some t ∧ r + moreR t ≤ (K : Int) ∧ fitStep K (labs ps) r nx (idxT ps t) = some (r + moreR t, bump nx p) := by
  unfold nextAt at h
  cases ht : turnAt ps p (nx p) with
  | none => rw [ht] at h; cases h
  | some u =>
    rw [ht] at h
    simp only at h
    by_cases hk : r + moreR u ≤ (K : Int)
    · rw [if_pos hk] at h
      cases h
      obtain ⟨q, x, hq, hx, rfl⟩ := turnAt_some ht
      refine ⟨rfl, rfl, rfl, hk, ?_⟩
      show fitStep K (labs ps) r nx (offP ps p + nx p) = _
      rw [fitStep_at hf hq hx, if_pos rfl, if_pos hk]
    · rw [if_neg hk] at h; cases h

/-- The orders behind a list, plate by plate. -/
theorem allO_next {K : Nat} {ps : List (List Stp)} (hf : Fine ps) {l : List Nat} {r : Int} {nx : Nat → Nat} (h : endS K (labs ps) l 0 (fun _ => 0) = some (r, nx)) (d : Nat) :
    allO K (labs ps) (d + 1) l = (nxtF K ps r nx).flatMap fun t => allO K (labs ps) d (l ++ [idxT ps t]) := by
  rw [allO_succ, ← offP_end, range_plates ps _ _ (Nat.le_refl _), nxtF]
  have hg : ∀ p, p < ps.length → (List.range (ps.getD p []).length).flatMap (fun n => branch K (labs ps) d l (offP ps p + n)) = ((nextAt K ps r nx p).toList).flatMap fun t => allO K (labs ps) d (l ++ [idxT ps t]) := by
    intro p hp
    have hq : ps[p]? = some (ps.getD p []) := by rw [List.getD_eq_getElem?_getD, List.getElem?_eq_getElem (by omega)]; rfl
    generalize ps.getD p [] = q at hq ⊢
    rw [range_one _ (nx p)]
    · by_cases hn : nx p < q.length
      · have hx := List.getElem?_eq_getElem hn
        rw [if_pos hn, branch_end h, fitStep_at hf hq hx, if_pos rfl]
        have ht : turnAt ps p (nx p) = some ⟨q[nx p], p, nx p, begB q (nx p)⟩ := by simp [turnAt, hq, hx]
        unfold nextAt
        rw [ht]
        simp only
        by_cases hk : r + moreR ⟨q[nx p], p, nx p, begB q (nx p)⟩ ≤ (K : Int)
        · rw [if_pos hk, if_pos hk]
          simp [idxT]
        · rw [if_neg hk, if_neg hk]; simp
      · have ht : turnAt ps p (nx p) = none := by simp [turnAt, hq, List.getElem?_eq_none (show q.length ≤ nx p by omega)]
        rw [if_neg hn]
        simp [nextAt, ht]
    · intro n hn hne
      rw [branch_end h, fitStep_at hf hq (List.getElem?_eq_getElem hn), if_neg hne]
      rfl
  have hall : ∀ m, m ≤ ps.length → (List.range m).flatMap (fun p => (List.range (ps.getD p []).length).flatMap (fun n => branch K (labs ps) d l (offP ps p + n))) = ((List.range m).filterMap (nextAt K ps r nx)).flatMap fun t => allO K (labs ps) d (l ++ [idxT ps t]) := by
    intro m
    induction m with
    | zero => simp
    | succ m ih =>
      intro hm
      rw [List.range_succ, List.flatMap_append, ih (by omega), List.filterMap_append, List.flatMap_append]
      congr 1
      have := hg m (by omega)
      simp only [List.flatMap_cons, List.flatMap_nil, List.append_nil]
      rw [this]
      cases hn : nextAt K ps r nx m with
      | none => simp [hn]
      | some t => simp [hn]
  exact hall _ (Nat.le_refl _)

/-- A sum over the first numbers. -/
def sumR (f : Nat → Int) : Nat → Int
  | 0 => 0
  | m + 1 => sumR f m + f m
theorem sumR_same {f g : Nat → Int} : ∀ m, (∀ p, p < m → f p = g p) → sumR f m = sumR g m
  | 0, _ => rfl
  | m + 1, h => by rw [sumR, sumR, sumR_same m (fun p hp => h p (by omega)), h m (by omega)]
theorem sumR_upd {f g : Nat → Int} (a : Nat) : ∀ m, a < m → (∀ p, p < m → p ≠ a → g p = f p) → sumR g m = sumR f m + (g a - f a)
  | 0, h, _ => by omega
  | m + 1, h, hs => by
    rw [sumR, sumR]
    by_cases e : a = m
    · subst e
      rw [sumR_same (f := g) (g := f) a (fun p hp => hs p (by omega) (by omega))]
      omega
    · rw [sumR_upd a m (by omega) (fun p hp => hs p (by omega)), hs m (by omega) (by omega)]
      omega
theorem sumR_pos {f : Nat → Int} : ∀ m, (∀ p, p < m → f p ≤ 0) → sumR f m ≤ 0
  | 0, _ => by simp [sumR]
  | m + 1, h => by
    have h1 := sumR_pos m (fun p hp => h p (by omega))
    have h2 := h m (by omega)
    rw [sumR]; omega
theorem sumR_le {f g : Nat → Int} : ∀ m, (∀ p, p < m → f p ≤ g p) → sumR f m ≤ sumR g m
  | 0, _ => by simp [sumR]
  | m + 1, h => by
    have h1 := sumR_le m (fun p hp => h p (by omega))
    have h2 := h m (by omega)
    rw [sumR, sumR]; omega

/-- Is a rest of the plate under way, when so many of its steps are done? -/
def under (ps : List (List Stp)) (nx : Nat → Nat) (p : Nat) : Bool := match turnAt ps p (nx p) with | some t => t.x.rest | none => false
def lenP (ps : List (List Stp)) (p : Nat) : Nat := (ps.getD p []).length
theorem lenP_eq {ps : List (List Stp)} {p : Nat} {q : List Stp} (h : ps[p]? = some q) : lenP ps p = q.length := by
  simp [lenP, List.getD_eq_getElem?_getD, h]

/-- What a list that fits so far comes to. -/
structure Sofar (K : Nat) (ps : List (List Stp)) (l : List Nat) (r : Int) (nx : Nat → Nat) : Prop where
  le : ∀ p, p < ps.length → nx p ≤ lenP ps p
  out : ∀ p, ps.length ≤ p → nx p = 0
  cnt : sumR (fun p => (nx p : Int)) ps.length = (l.length : Int)
  rst : sumR (fun p => if under ps nx p then 1 else 0) ps.length = r
  top : r ≤ (K : Int)
theorem under_bump {ps : List (List Stp)} {nx : Nat → Nat} {p : Nat} {t : Trn} (h : turnAt ps p (nx p) = some t) : under ps nx p = t.x.rest ∧ under ps (bump nx p) p = t.beg := by
  obtain ⟨q, x, hq, hx, rfl⟩ := turnAt_some h
  refine ⟨by simp [under, h], ?_⟩
  have hb : bump nx p p = nx p + 1 := by simp [bump]
  unfold under
  rw [hb]
  unfold turnAt begB
  rw [hq]
  cases hx2 : q[nx p + 1]? with
  | none => simp [hx2]
  | some y => simp [hx2]
theorem Sofar.start (K : Nat) {ps : List (List Stp)} (hf : Fine ps) : Sofar K ps [] 0 (fun _ => 0) := by
  have hu : ∀ p, p < ps.length → (if under ps (fun _ => 0) p then (1 : Int) else 0) = 0 := by
    intro p hp
    have hq : ps[p]? = some (ps.getD p []) := by rw [List.getD_eq_getElem?_getD, List.getElem?_eq_getElem (by omega)]; rfl
    obtain ⟨x, r, e, hx⟩ := hf _ _ hq
    have : turnAt ps p 0 = some ⟨x, p, 0, begB (x :: r) 0⟩ := by rw [e] at hq; simp only [turnAt, hq]; rfl
    simp [under, this, hx]
  refine ⟨fun p _ => Nat.zero_le _, fun _ _ => rfl, ?_, ?_, by omega⟩
  · rw [sumR_same (g := fun _ => (0 : Int)) ps.length (fun p _ => by simp)]
    have : ∀ m, sumR (fun _ => 0) m = 0 := fun m => by induction m with | zero => rfl | succ m ih => rw [sumR, ih]; rfl
    rw [this]; rfl
  · rw [sumR_same (g := fun _ => 0) ps.length hu]
    have : ∀ m, sumR (fun _ => 0) m = 0 := fun m => by induction m with | zero => rfl | succ m ih => rw [sumR, ih]; rfl
    exact this _
theorem Sofar.step {K : Nat} {ps : List (List Stp)} {l : List Nat} {r : Int} {nx : Nat → Nat} (h : Sofar K ps l r nx) {p : Nat} {t : Trn} (ht : turnAt ps p (nx p) = some t) (hk : r + moreR t ≤ (K : Int)) (i : Nat) :
    Sofar K ps (l ++ [i]) (r + moreR t) (bump nx p) := by
  obtain ⟨q, x, hq, hx, rfl⟩ := turnAt_some ht
  have hp := getElem?_lt hq
  obtain ⟨u1, u2⟩ := under_bump ht
  refine ⟨fun a ha => ?_, fun a ha => ?_, ?_, ?_, hk⟩
  · by_cases e : a = p
    · subst e
      have := getElem?_lt hx
      rw [lenP_eq hq]; simp [bump]; omega
    · have := h.le a ha; simp [bump, e]; exact this
  · have : a ≠ p := by omega
    simp [bump, this]; exact h.out a ha
  · rw [sumR_upd (f := fun p => (nx p : Int)) p _ hp (fun a _ e => by simp [bump, e]), h.cnt]
    simp [bump]; omega
  · rw [sumR_upd (f := fun p => if under ps nx p then 1 else 0) p _ hp (fun a _ e => ?_), h.rst]
    · rw [u1, u2]; simp only [moreR]
    · have hba : bump nx p a = nx a := by simp [bump, e]
      have hu : under ps (bump nx p) a = under ps nx a := by unfold under; rw [hba]
      rw [hu]
theorem Sofar.of_end {K : Nat} {ps : List (List Stp)} (hf : Fine ps) : ∀ (l : List Nat) (l0 : List Nat) (r0 : Int) (nx0 : Nat → Nat) (r : Int) (nx : Nat → Nat), Sofar K ps l0 r0 nx0 → endS K (labs ps) l r0 nx0 = some (r, nx) → Sofar K ps (l0 ++ l) r nx
  | [], l0, r0, nx0, r, nx, h, he => by simp [endS] at he; obtain ⟨rfl, rfl⟩ := he; simpa using h
  | i :: l, l0, r0, nx0, r, nx, h, he => by
    rw [endS] at he
    cases hs : fitStep K (labs ps) r0 nx0 i with
    | none => rw [hs] at he; cases he
    | some st =>
      rw [hs] at he
      simp only [Option.bind_some] at he
      have h2 : ∃ p t, turnAt ps p (nx0 p) = some t ∧ r0 + moreR t ≤ (K : Int) ∧ st = (r0 + moreR t, bump nx0 p) := by
        cases hL : (labs ps)[i]? with
        | none => simp [fitStep, hL] at hs
        | some y =>
          obtain ⟨p, n, q, x, hq, hx, rfl⟩ : ∃ p n q x, ps[p]? = some q ∧ q[n]? = some x ∧ i = offP ps p + n := labs_inv (getElem?_lt hL)
          rw [fitStep_at hf hq hx] at hs
          by_cases e : n = nx0 p
          · rw [if_pos e] at hs
            by_cases hk : r0 + moreR ⟨x, p, n, begB q n⟩ ≤ (K : Int)
            · rw [if_pos hk] at hs
              subst e
              exact ⟨p, _, by simp [turnAt, hq, hx], hk, (Option.some.inj hs).symm⟩
            · rw [if_neg hk] at hs; cases hs
          · rw [if_neg e] at hs; cases hs
      obtain ⟨p, t, ht, hk, rfl⟩ := h2
      have := Sofar.of_end hf l (l0 ++ [i]) _ _ r nx (h.step ht hk i) he
      simpa using this

theorem flat_sum (ps : List (List Stp)) : ∀ m, m ≤ ps.length → sumR (fun p => (lenP ps p : Int)) m = (offP ps m : Int)
  | 0, _ => by simp [sumR, offP]
  | m + 1, h => by
    have hq : ps[m]? = some (ps.getD m []) := by rw [List.getD_eq_getElem?_getD, List.getElem?_eq_getElem (by omega)]; rfl
    rw [sumR, flat_sum ps m (by omega), offP_succ hq]
    simp [lenP]
theorem sumR_short {f g : Nat → Int} : ∀ m, (∀ p, p < m → f p ≤ g p) → sumR f m < sumR g m → ∃ p, p < m ∧ f p < g p
  | 0, _, h => by simp [sumR] at h
  | m + 1, hl, h => by
    rw [sumR, sumR] at h
    by_cases e : f m < g m
    · exact ⟨m, by omega, e⟩
    · obtain ⟨p, h1, h2⟩ := sumR_short m (fun p hp => hl p (by omega)) (by have := hl m (by omega); omega)
      exact ⟨p, by omega, h2⟩
theorem sumR_eq_all {f g : Nat → Int} : ∀ m, (∀ p, p < m → f p ≤ g p) → sumR f m = sumR g m → ∀ p, p < m → f p = g p
  | 0, _, _ => fun p hp => by omega
  | m + 1, hl, h => by
    intro p hp
    have h1 := sumR_le m (fun p hp => hl p (by omega))
    have h2 := hl m (by omega)
    rw [sumR, sumR] at h
    by_cases e : p = m
    · subst e; omega
    · exact sumR_eq_all m (fun p hp => hl p (by omega)) (by omega) p (by omega)
/-- All steps done: nothing is next. -/
theorem nxtF_nil {K : Nat} {ps : List (List Stp)} {l : List Nat} {r : Int} {nx : Nat → Nat} (h : Sofar K ps l r nx) (hl : l.length = (labs ps).length) : nxtF K ps r nx = [] := by
  have hall : ∀ p, p < ps.length → (nx p : Int) = (lenP ps p : Int) := by
    refine sumR_eq_all _ (fun p hp => by have := h.le p hp; omega) ?_
    rw [h.cnt, flat_sum ps _ (Nat.le_refl _), offP_end, hl]
  unfold nxtF
  rw [List.filterMap_eq_nil_iff]
  intro p hp
  have hp' : p < ps.length := by simpa using hp
  have hq : ps[p]? = some (ps.getD p []) := by rw [List.getD_eq_getElem?_getD, List.getElem?_eq_getElem (by omega)]; rfl
  have hn : nx p = (ps.getD p []).length := by have := hall p hp'; simp [lenP] at this ⊢; omega
  have : turnAt ps p (nx p) = none := by simp only [turnAt, hq]; simp [hn]
  simp [nextAt, this]
/-- A step is left: something is next (no beginning of an order is a dead end). -/
theorem nxtF_some {K : Nat} {ps : List (List Stp)} {l : List Nat} {r : Int} {nx : Nat → Nat} (h : Sofar K ps l r nx) (hl : l.length < (labs ps).length)
    (hK : ∀ q ∈ ps, ∀ x ∈ q, x.rest = true → 1 ≤ K) : nxtF K ps r nx ≠ [] := by
  have hget : ∀ p, p < ps.length → ps[p]? = some (ps.getD p []) := fun p hp => by rw [List.getD_eq_getElem?_getD, List.getElem?_eq_getElem (by omega)]; rfl
  suffices hs : ∃ p t, p < ps.length ∧ nextAt K ps r nx p = some t by
    obtain ⟨p, t, hp, ht⟩ := hs
    intro e
    unfold nxtF at e
    rw [List.filterMap_eq_nil_iff] at e
    have := e p (by simpa using hp)
    rw [ht] at this; cases this
  by_cases hr : 0 < r
  · -- a rest is under way: it can end
    obtain ⟨p, hp, hu⟩ : ∃ p, p < ps.length ∧ (0 : Int) < (if under ps nx p then 1 else 0) := by
      refine sumR_short (f := fun _ => 0) _ (fun p _ => by split <;> simp) ?_
      have : ∀ m, sumR (fun _ => 0) m = 0 := fun m => by induction m with | zero => rfl | succ m ih => rw [sumR, ih]; rfl
      rw [this, h.rst]; exact hr
    have hu' : under ps nx p = true := by
      cases hb : under ps nx p
      · rw [hb] at hu; simp at hu
      · rfl
    unfold under at hu'
    cases ht : turnAt ps p (nx p) with
    | none => rw [ht] at hu'; cases hu'
    | some t =>
      rw [ht] at hu'
      simp only at hu'
      refine ⟨p, t, hp, ?_⟩
      have hm : moreR t ≤ 0 := by simp only [moreR, hu']; split <;> simp
      have := h.top
      unfold nextAt
      rw [ht]
      simp only
      rw [if_pos (by omega)]
  · obtain ⟨p, hp, hlt⟩ : ∃ p, p < ps.length ∧ (nx p : Int) < (lenP ps p : Int) := by
      refine sumR_short _ (fun p hp => by have := h.le p hp; omega) ?_
      rw [h.cnt, flat_sum ps _ (Nat.le_refl _), offP_end]; omega
    have hq := hget p hp
    have hn : nx p < (ps.getD p []).length := by simp [lenP] at hlt ⊢; omega
    have ht : turnAt ps p (nx p) = some ⟨(ps.getD p [])[nx p], p, nx p, begB (ps.getD p []) (nx p)⟩ := by simp only [turnAt, hq]; simp
    refine ⟨p, ⟨(ps.getD p [])[nx p], p, nx p, begB (ps.getD p []) (nx p)⟩, hp, ?_⟩
    unfold nextAt
    rw [ht]
    simp only
    rw [if_pos]
    have hle : (if under ps nx p then (1 : Int) else 0) ≤ r := by
      have h1 := h.rst
      by_cases hu : under ps nx p
      · have : (0 : Int) < sumR (fun p => if under ps nx p then 1 else 0) ps.length := by
          have h2 := sumR_upd (f := fun _ => 0) (g := fun a => if a = p then 1 else 0) p ps.length hp (fun a _ e => by simp [e])
          have h3 : ∀ m, sumR (fun _ => 0) m = 0 := fun m => by induction m with | zero => rfl | succ m ih => rw [sumR, ih]; rfl
          rw [h3] at h2
          have h4 := sumR_le (f := fun a => if a = p then 1 else 0) (g := fun p => if under ps nx p then 1 else 0) ps.length (fun a _ => by
            by_cases e : a = p
            · subst e; simp [hu]
            · simp [e]; split <;> simp)
          simp at h2
          omega
        omega
      · have h5 : 0 ≤ sumR (fun p => if under ps nx p then 1 else 0) ps.length := by
          have h3 : ∀ m, sumR (fun _ => 0) m = 0 := fun m => by induction m with | zero => rfl | succ m ih => rw [sumR, ih]; rfl
          have := sumR_le (f := fun _ => 0) (g := fun p => if under ps nx p then 1 else 0) ps.length (fun a _ => by split <;> simp)
          rw [h3] at this; exact this
        simp [hu]; omega
    have hu0 : under ps nx p = false := by
      cases hb : under ps nx p
      · rfl
      · rw [hb] at hle; simp at hle; omega
    have hr0 : (ps.getD p [])[nx p].rest = false := by
      have := hu0; unfold under at this; rw [ht] at this; exact this
    simp only [moreR, hr0]
    cases hb : begB (ps.getD p []) (nx p)
    · simp; have := h.top; omega
    · have hx : 1 ≤ K := by
        unfold begB at hb
        cases hy : (ps.getD p [])[nx p + 1]? with
        | none => rw [hy] at hb; cases hb
        | some y =>
          rw [hy] at hb
          exact hK _ (List.mem_of_getElem? hq) y (List.mem_of_getElem? hy) hb
      simp; omega

/-- The orders with the word whether another follows; u: how many turns are not yet tried. -/
def flagL : List (List Nat) → Nat → List (List Nat × Bool)
  | [], _ => []
  | [o], u => [(o, decide (0 < u))]
  | o :: o' :: r, u => (o, true) :: flagL (o' :: r) u
theorem flagL_pos {u : Nat} (hu : 0 < u) : ∀ A, flagL A u = A.map fun o => (o, true)
  | [] => rfl
  | [o] => by simp [flagL, hu]
  | o :: o' :: r => by rw [flagL, flagL_pos hu (o' :: r)]; rfl
theorem flagL_append (u : Nat) {B : List (List Nat)} (hB : B ≠ []) : ∀ A, flagL (A ++ B) u = A.map (fun o => (o, true)) ++ flagL B u
  | [] => rfl
  | [o] => by
    cases B with
    | nil => exact absurd rfl hB
    | cons b r => rfl
  | o :: o' :: r => by
    have := flagL_append u hB (o' :: r)
    rw [List.cons_append, List.cons_append, flagL, ← List.cons_append, this]; rfl
theorem flagL_len (u : Nat) : ∀ A, (flagL A u).length = A.length
  | [] => rfl
  | [_] => rfl
  | o :: o' :: r => by rw [flagL, List.length_cons, flagL_len u (o' :: r)]; rfl
theorem flagL_fst (u : Nat) : ∀ A, (flagL A u).map (·.1) = A
  | [] => rfl
  | [_] => rfl
  | o :: o' :: r => by rw [flagL, List.map_cons, flagL_fst u (o' :: r)]
theorem flagL_last : ∀ A, A ≠ [] → ((flagL A 0).getLast?).map (·.2) = some false
  | [], h => absurd rfl h
  | [_], _ => rfl
  | o :: o' :: r, _ => by
    have := flagL_last (o' :: r) (by simp)
    rw [flagL, List.getLast?_cons]
    cases hl : (flagL (o' :: r) 0).getLast? with
    | none => rw [hl] at this; cases this
    | some x => rw [hl] at this; simpa using this
theorem flagL_early : ∀ A (k : Nat) (o : List Nat) (b : Bool), (flagL A 0)[k]? = some (o, b) → b = decide (k + 1 < A.length)
  | [], k, o, b, h => by simp [flagL] at h
  | [o'], 0, o, b, h => by simp [flagL] at h; simp [h.2]
  | [o'], k + 1, o, b, h => by simp [flagL] at h
  | o' :: o2 :: r, 0, o, b, h => by simp [flagL] at h; simp [h.2.symm]
  | o' :: o2 :: r, k + 1, o, b, h => by
    rw [flagL, List.getElem?_cons_succ] at h
    have := flagL_early (o2 :: r) k o b h
    rw [this]; simp

/-- The steps of a list of places, as turns. -/
def turnOfIdx (ps : List (List Stp)) (i : Nat) : Trn :=
  match (labs ps)[i]? with
  | some y => ⟨y.x, y.pl, y.no, restAfter (labs ps) i⟩
  | none => ⟨⟨0, 0, false, 0, 0⟩, 0, 0, false⟩
theorem turnOfIdx_at {ps : List (List Stp)} (hf : Fine ps) {p n : Nat} {t : Trn} (h : turnAt ps p n = some t) : turnOfIdx ps (idxT ps t) = t := by
  obtain ⟨q, x, hq, hx, rfl⟩ := turnAt_some h
  unfold turnOfIdx idxT
  simp only
  rw [labs_at hq hx]
  simp only
  rw [restAfter_at hf hq (getElem?_lt hx)]

theorem allO_ne {K : Nat} {ps : List (List Stp)} (hf : Fine ps) (hK : ∀ q ∈ ps, ∀ x ∈ q, x.rest = true → 1 ≤ K) : ∀ (d : Nat) (l : List Nat) (r : Int) (nx : Nat → Nat), endS K (labs ps) l 0 (fun _ => 0) = some (r, nx) → l.length + d = (labs ps).length → allO K (labs ps) d l ≠ []
  | 0, l, _, _, _, _ => by simp [allO]
  | d + 1, l, r, nx, he, hl => by
    have hs : Sofar K ps l r nx := by simpa using Sofar.of_end hf l [] 0 _ r nx (Sofar.start K hf) he
    have hn := nxtF_some hs (by omega) hK
    rw [allO_next hf he]
    cases hnx : nxtF K ps r nx with
    | nil => exact absurd hnx hn
    | cons t ts =>
      have hmem : t ∈ nxtF K ps r nx := by rw [hnx]; simp
      unfold nxtF at hmem
      obtain ⟨p, hp, ht⟩ := List.mem_filterMap.1 hmem
      obtain ⟨_, _, _, _, h5⟩ := nextAt_fit hf ht
      have he2 : endS K (labs ps) (l ++ [idxT ps t]) 0 (fun _ => 0) = some (r + moreR t, bump nx p) := by rw [endS_snoc, he]; exact h5
      have := allO_ne hf hK d (l ++ [idxT ps t]) _ _ he2 (by simp; omega)
      rw [List.flatMap_cons]
      intro h
      exact this (List.append_eq_nil_iff.1 h).1

end Hx
end Go.Proofs.YtppcnlkhdgmaiaaDoor
namespace Go.Proofs.YtppcnlkhdgmaiaaDoor
open Go.RowKit

def trnCells (t : Hx.Trn) : List Value := [.int .i64 (t.x.lo : Int), .int .i64 (t.x.hi : Int), .bool t.x.rest, .int .i64 (t.x.mn : Int), .int .i64 (t.x.mx : Int), .int .i64 (t.pl : Int), .int .i64 (t.no : Int), .bool t.beg]

set_option maxRecDepth 100000 in
set_option maxHeartbeats 2000000 in
theorem more_any (t : Hx.Trn) (w : World) :
    Calls Tryd.prog 71 #[.agg #[.int .i64 (t.x.lo : Int), .int .i64 (t.x.hi : Int), .bool t.x.rest, .int .i64 (t.x.mn : Int), .int .i64 (t.x.mx : Int), .int .i64 (t.pl : Int), .int .i64 (t.no : Int), .bool t.beg]] w
      fun e w' => e = .returned (.int .i64 (Hx.moreR t)) ∧ w' = w.alloc (.cells #[.int .i64 (t.x.lo : Int), .int .i64 (t.x.hi : Int), .bool t.x.rest, .int .i64 (t.x.mn : Int), .int .i64 (t.x.mx : Int), .int .i64 (t.pl : Int), .int .i64 (t.no : Int), .bool t.beg] 83) := by
  obtain ⟨⟨lo, hi, rest, mn, mx⟩, pl, no, beg⟩ := t
  simp only [Hx.moreR]
  cases rest <;> cases beg <;>
  · go_enter Tryd.func71, Tryd.ntmps71
    go_wp2_with fail
    go_returns
    exact ⟨rfl, rfl⟩

/-- Where a plate's steps lie. -/
theorem Plts.plate {w : World} {base : Nat} {v : Value} {ps : List (List Hx.Stp)} (h : Plts w base v ps) {p : Nat} {q : List Hx.Stp} (hq : ps[p]? = some q) (hne : 0 < q.length) :
    ∃ g cap g2 cap2, v = .slice (some ⟨g, 0, none⟩) ps.length cap ∧ g < w.heap.size ∧ base ≤ g ∧ g2 < w.heap.size ∧ base ≤ g2 ∧ w.cell? ⟨g, p, none⟩ = some (.slice (some ⟨g2, 0, none⟩) q.length cap2) ∧ q.length ≤ 121 ∧
      ∀ (j : Nat) (x : Hx.Stp), q[j]? = some x → ∀ t, t < 5 → w.cell? ⟨g2, j * 5 + t, none⟩ = (stpCells x)[t]? := by
  obtain ⟨vs, hvs, hpp⟩ := h
  have hp := Hx.getElem?_lt hq
  obtain ⟨g, cap, rfl, hb, hg⟩ := own_pos hvs (by omega)
  obtain ⟨u, hu, hou, hq121⟩ := hpp p q hq
  obtain ⟨g2, cap2, rfl, hb2, hg2⟩ := own_pos hou hne
  refine ⟨g, cap, g2, cap2, rfl, hg, hb, hg2, hb2, ?_, hq121, fun j x hx t ht => own_step hou rfl j x hx t ht⟩
  rw [hvs.cellAt p (by omega)]; exact hu

theorem cA {w : World} {p : Addr} {v : Value} (o : Obj) (h : w.cell? p = some v) : (w.alloc o).cell? p = some v := (grown_alloc w o none).cell h (by simp)
theorem cD {w : World} {p : Addr} {v : Value} (h : w.cell? p = some v) : w.drew.cell? p = some v := h

theorem Plts.below_any {n : Nat} {w w' : World} {base : Nat} {v : Value} {ps : List (List Hx.Stp)} (h : Plts w base v ps) (hb : Below n w w') (hn : w.heap.size ≤ n) : Plts w' base v ps := h.below (hb.mono hn)
theorem bA {w : World} {k : Nat} {x : Obj} (o : Obj) (h : w.heap[k]? = some x) : (w.alloc o).heap[k]? = some x := blk_kept h (grown_alloc w o none) (by simp)
theorem bD {w : World} {k : Nat} {x : Obj} (h : w.heap[k]? = some x) : w.drew.heap[k]? = some x := h
theorem bN {w : World} {k : Nat} (a : Array Value) (T : TypeId) (h : k = w.heap.size) : (w.alloc (.cells a T)).heap[k]? = some (.cells a T (0, 0)) := by subst h; exact blk_new w a T
theorem belA {w W : World} (o : Obj) (h : Below w.heap.size w W) : Below w.heap.size w (W.alloc o) := h.alloc h.size o
theorem belD {n : Nat} {w W : World} (h : Below n w W) : Below n w W.drew := h.drew

set_option maxRecDepth 100000 in
set_option maxHeartbeats 2000000 in
theorem turn_exact (J K D : Nat) (v : Value) (base : Nat) (ps : List (List Hx.Stp)) (w : World) (p n : Nat) (t : Hx.Trn) (hps : Plts w base v ps) (ht : Hx.turnAt ps p n = some t) :
    Calls Tryd.prog 49 #[.agg #[.int .i64 (J : Int), .int .i64 (K : Int), .int .i64 (D : Int), v], .int .i64 (p : Int), .int .i64 (n : Int)] w
      fun e w' => e = .returned (.agg #[.int .i64 (t.x.lo : Int), .int .i64 (t.x.hi : Int), .bool t.x.rest, .int .i64 (t.x.mn : Int), .int .i64 (t.x.mx : Int), .int .i64 (t.pl : Int), .int .i64 (t.no : Int), .bool t.beg]) ∧
        w' = (w.alloc (.cells #[.int .i64 (J : Int), .int .i64 (K : Int), .int .i64 (D : Int), v] 75)).alloc (.cells #[.int .i64 (t.x.lo : Int), .int .i64 (t.x.hi : Int), .bool t.x.rest, .int .i64 (t.x.mn : Int), .int .i64 (t.x.mx : Int), .int .i64 (t.pl : Int), .int .i64 (t.no : Int), .bool t.beg] 83) := by
  obtain ⟨q, x, hq, hx, rfl⟩ := Hx.turnAt_some ht
  have hn := Hx.getElem?_lt hx
  have hp := Hx.getElem?_lt hq
  obtain ⟨g, cap, g2, cap2, rfl, hg, _, hg2, _, hc, hq121, hst⟩ := hps.plate hq (by omega)
  have cP : ∀ o1 o2, ((w.alloc o1).alloc o2).cell? ⟨g, p, none⟩ = some (.slice (some ⟨g2, 0, none⟩) q.length cap2) := fun o1 o2 => cA o2 (cA o1 hc)
  have x0 : ∀ o1 o2, ((w.alloc o1).alloc o2).cell? ⟨g2, n * 5, none⟩ = some (.int .i64 (x.lo : Int)) := fun o1 o2 => cA o2 (cA o1 (hst n x hx 0 (by omega)))
  have x1 : ∀ o1 o2, ((w.alloc o1).alloc o2).cell? ⟨g2, n * 5 + 1, none⟩ = some (.int .i64 (x.hi : Int)) := fun o1 o2 => cA o2 (cA o1 (hst n x hx 1 (by omega)))
  have x2 : ∀ o1 o2, ((w.alloc o1).alloc o2).cell? ⟨g2, n * 5 + 2, none⟩ = some (.bool x.rest) := fun o1 o2 => cA o2 (cA o1 (hst n x hx 2 (by omega)))
  have x3 : ∀ o1 o2, ((w.alloc o1).alloc o2).cell? ⟨g2, n * 5 + 3, none⟩ = some (.int .i64 (x.mn : Int)) := fun o1 o2 => cA o2 (cA o1 (hst n x hx 3 (by omega)))
  have x4 : ∀ o1 o2, ((w.alloc o1).alloc o2).cell? ⟨g2, n * 5 + 4, none⟩ = some (.int .i64 (x.mx : Int)) := fun o1 o2 => cA o2 (cA o1 (hst n x hx 4 (by omega)))
  by_cases hm : n + 1 < q.length
  · obtain ⟨y, hy⟩ : ∃ y, q[n + 1]? = some y := ⟨q[n + 1], List.getElem?_eq_getElem hm⟩
    have hbeg : Hx.begB q n = y.rest := by simp [Hx.begB, hy]
    have y2 : ∀ o1 o2, ((w.alloc o1).alloc o2).cell? ⟨g2, (n + 1) * 5 + 2, none⟩ = some (.bool y.rest) := fun o1 o2 => cA o2 (cA o1 (hst (n + 1) y hy 2 (by omega)))
    have hmI : (n : Int) + 1 < (q.length : Int) := by omega
    rw [hbeg]
    clear hbeg hst hx ht hps hq hc hy
    go_enter Tryd.func49, Tryd.ntmps49
    go_wp2_with fail
    refine bodyPost_ret (v := .agg #[.int .i64 (x.lo : Int), .int .i64 (x.hi : Int), .bool x.rest, .int .i64 (x.mn : Int), .int .i64 (x.mx : Int), .int .i64 (p : Int), .int .i64 (n : Int), .bool y.rest]) (by simp [results, Tryd.results49, go_sem]) rfl ?_
    exact ⟨rfl, rfl⟩
  · have hbeg : Hx.begB q n = false := by simp [Hx.begB, List.getElem?_eq_none (show q.length ≤ n + 1 by omega)]
    have hmI : decide ((n : Int) + 1 < (q.length : Int)) = false := by simp; omega
    rw [hbeg]
    clear hbeg hst hx ht hps hq hc
    go_enter Tryd.func49, Tryd.ntmps49
    go_wp2_with fail
    refine bodyPost_ret (v := .agg #[.int .i64 (x.lo : Int), .int .i64 (x.hi : Int), .bool x.rest, .int .i64 (x.mn : Int), .int .i64 (x.mx : Int), .int .i64 (p : Int), .int .i64 (n : Int), .bool false]) (by simp [results, Tryd.results49, go_sem]) rfl ?_
    exact ⟨rfl, rfl⟩
theorem turn_any (J K D : Nat) (v : Value) (base : Nat) (ps : List (List Hx.Stp)) (w : World) (p n : Nat) (t : Hx.Trn) (hps : Plts w base v ps) (ht : Hx.turnAt ps p n = some t) :
    Calls Tryd.prog 49 #[.agg #[.int .i64 (J : Int), .int .i64 (K : Int), .int .i64 (D : Int), v], .int .i64 (p : Int), .int .i64 (n : Int)] w
      fun e w' => e = .returned (.agg #[.int .i64 (t.x.lo : Int), .int .i64 (t.x.hi : Int), .bool t.x.rest, .int .i64 (t.x.mn : Int), .int .i64 (t.x.mx : Int), .int .i64 (t.pl : Int), .int .i64 (t.no : Int), .bool t.beg]) ∧ Below w.heap.size w w' :=
  (turn_exact J K D v base ps w p n t hps ht).mono fun e w' h => ⟨h.1, by rw [h.2]; exact belA _ (belA _ (Below.refl _ _))⟩

set_option maxRecDepth 100000 in
set_option maxHeartbeats 2000000 in
theorem apart_any (J : Nat) (x : Hx.Stp) (lo hi : Nat) (w : World) (hJ : J < 1000) (h1 : x.lo < 1000) (h2 : x.hi < 1000) (h3 : lo < 1000) (h4 : hi < 1000) :
    Calls Tryd.prog 48 #[.int .i64 (J : Int), .agg #[.int .i64 (x.lo : Int), .int .i64 (x.hi : Int), .bool x.rest, .int .i64 (x.mn : Int), .int .i64 (x.mx : Int)], .agg #[.int .i64 (lo : Int), .int .i64 (hi : Int)]] w
      fun e w' => e = .returned (.agg #[.int .i64 ((J : Int) + x.hi + lo), .int .i64 ((x.lo : Int) + hi - J)]) ∧ w' = (((w.alloc (.cells #[.int .i64 (x.lo : Int), .int .i64 (x.hi : Int), .bool x.rest, .int .i64 (x.mn : Int), .int .i64 (x.mx : Int)] 81)).alloc (.cells #[.int .i64 (lo : Int), .int .i64 (hi : Int)] 79)).alloc (.cells #[.int .i64 ((J : Int) + x.hi + lo), .int .i64 ((x.lo : Int) + hi - J)] 79)) := by
  obtain ⟨xlo, xhi, rest, mn, mx⟩ := x
  simp only at h1 h2 ⊢
  go_enter Tryd.func48, Tryd.ntmps48
  go_wp2_with fail
  refine bodyPost_ret (v := .agg #[.int .i64 ((J : Int) + xhi + lo), .int .i64 ((xlo : Int) + hi - J)]) (by simp [results, Tryd.results48, go_sem]) rfl ?_
  exact ⟨rfl, rfl⟩

/-- The name of a step: its letter and its digit. -/
def Hx.nameB (pl no : Nat) : ByteArray := ⟨#[UInt8.ofNat (97 + pl), UInt8.ofNat (48 + no)]⟩

set_option maxRecDepth 100000 in
set_option maxHeartbeats 2000000 in
theorem tname_any (t : Hx.Trn) (w : World) (hp : t.pl < 26) (hn : t.no < 10) :
    Calls Tryd.prog 33 #[.agg #[.int .i64 (t.x.lo : Int), .int .i64 (t.x.hi : Int), .bool t.x.rest, .int .i64 (t.x.mn : Int), .int .i64 (t.x.mx : Int), .int .i64 (t.pl : Int), .int .i64 (t.no : Int), .bool t.beg]] w
      fun e w' => e = .returned (.string (Hx.nameB t.pl t.no)) ∧ Below w.heap.size w w' := by
  obtain ⟨⟨lo, hi, rest, mn, mx⟩, pl, no, beg⟩ := t
  simp only at hp hn ⊢
  have hstr : strOfNums [97 + (pl : Int), 48 + (no : Int)] = Hx.nameB pl no := by
    have e1 : (97 + (pl : Int)).toNat = 97 + pl := by omega
    have e2 : (48 + (no : Int)).toNat = 48 + no := by omega
    simp [strOfNums, Hx.nameB, e1, e2]
  have hconv : (convert 127 9 (.slice (some ⟨w.heap.size + 1, 0, none⟩) 2 2)).run Tryd.prog ((w.alloc (.cells #[.int .i64 (lo : Int), .int .i64 (hi : Int), .bool rest, .int .i64 (mn : Int), .int .i64 (mx : Int), .int .i64 (pl : Int), .int .i64 (no : Int), .bool beg] 83)).alloc (.cells #[.int .u8 (97 + (pl : Int)), .int .u8 (48 + (no : Int))] 5)) = .ok (.string (Hx.nameB pl no)) ((w.alloc (.cells #[.int .i64 (lo : Int), .int .i64 (hi : Int), .bool rest, .int .i64 (mn : Int), .int .i64 (mx : Int), .int .i64 (pl : Int), .int .i64 (no : Int), .bool beg] 83)).alloc (.cells #[.int .u8 (97 + (pl : Int)), .int .u8 (48 + (no : Int))] 5)) := by
    rw [← hstr]
    have hb := blk_new (w.alloc (.cells #[.int .i64 (lo : Int), .int .i64 (hi : Int), .bool rest, .int .i64 (mn : Int), .int .i64 (mx : Int), .int .i64 (pl : Int), .int .i64 (no : Int), .bool beg] 83)) #[.int .u8 (97 + (pl : Int)), .int .u8 (48 + (no : Int))] 5
    rw [size_alloc_] at hb
    refine run_convert_bytes_arg _ 127 5 Tryd.underlying127 Tryd.underlying5 (w.heap.size + 1) 0 2 2 [97 + (pl : Int), 48 + (no : Int)] rfl (fun i hi => ?_) 9 Tryd.underlying9
    rw [blk_cell hb]
    match i, hi with
    | 0, _ => rfl
    | 1, _ => rfl
  clear hstr
  have HBE := hide (((Below.refl w.heap.size w).alloc (Nat.le_refl _) (.cells #[.int .i64 (lo : Int), .int .i64 (hi : Int), .bool rest, .int .i64 (mn : Int), .int .i64 (mx : Int), .int .i64 (pl : Int), .int .i64 (no : Int), .bool beg] 83)).alloc (by simp) (.cells #[.int .u8 (97 + (pl : Int)), .int .u8 (48 + (no : Int))] 5))
  go_enter Tryd.func33, Tryd.ntmps33
  go_wp2_with fail
  go_returns
  exact ⟨rfl, unhide HBE⟩

end Go.Proofs.YtppcnlkhdgmaiaaDoor
namespace Go.Proofs
open Go.Shelf
def Tryd.lays169_ren : Go.Shelf.Ren := ⟨fun | 169 => 57 | n => n, fun | 70 => 133 | 9 => 9 | 0 => 0 | 72 => 135 | 37 => 127 | 127 => 169 | 3 => 3 | 5 => 5 | n => n, fun | n => n⟩
theorem Tryd.lays169 : Go.Proofs.Lays.n169 Tryd.prog Tryd.lays169_ren := {
  mixed := by kernel_rfl
  f169 := Tryd.func57.trans (congrArg some (by kernel_rfl))
  t0 := Tryd.underlying0
  a0 := Tryd.isAgg0
  z0 := Tryd.sizeOf0
  v0 := Tryd.zeroValue0
  t3 := Tryd.underlying3
  a3 := Tryd.isAgg3
  z3 := Tryd.sizeOf3
  v3 := Tryd.zeroValue3
  t9 := Tryd.underlying9
  a9 := Tryd.isAgg9
  z9 := Tryd.sizeOf9
  v9 := Tryd.zeroValue9
  t37 := Tryd.underlying127
  a37 := Tryd.isAgg127
  z37 := Tryd.sizeOf127
  v37 := Tryd.zeroValue127
  t70 := Tryd.underlying133
  a70 := Tryd.isAgg133
  z70 := Tryd.sizeOf133
  v70 := Tryd.zeroValue133
  t72 := Tryd.underlying135
  a72 := Tryd.isAgg135
  z72 := Tryd.sizeOf135
  v72 := Tryd.zeroValue135
  t127 := Tryd.underlying169
  a127 := Tryd.isAgg169
  z127 := Tryd.sizeOf169
  v127 := Tryd.zeroValue169 }
theorem Tryd.Builder_Extra_169 : Builder.Extra Tryd.prog Tryd.lays169_ren := {
  sizeBuilder := by kernel_rfl
  liesBuilder := by kernel_rfl
  t5 := Tryd.underlying5
  a5 := Tryd.isAgg5
  z5 := Tryd.sizeOf5
  v5 := Tryd.zeroValue5
  infoByte := by kernel_rfl
  cellsByte := by kernel_rfl
  sizeByte := by kernel_rfl
  neB5 := by decide }
open Go.RowKit in
theorem Tryd.Builder_String (B b : Nat) (l : List UInt8) (w : World) (h : Lib.IsBuilder 135 5 B b (Lib.byteCells l) w) (h0 : l ≠ []) :
    Calls Tryd.prog 57 #[.pointer (some ⟨b, 0, none⟩)] w fun e w' => e = .returned (.string ⟨l.toArray⟩) ∧ Below B w w' := Any.Builder_String Tryd.lays169 Tryd.Builder_Extra_169 B b l w h h0
open Go.RowKit in
theorem Tryd.Builder_String_any (B b : Nat) (l : List UInt8) (w : World) (h : Lib.IsBuilder 135 5 B b (Lib.byteCells l) w) (hBw : B ≤ w.heap.size) :
    Calls Tryd.prog 57 #[.pointer (some ⟨b, 0, none⟩)] w fun e w' => e = .returned (.string ⟨l.toArray⟩) ∧ Below B w w' := Any.Builder_String_any Tryd.lays169 Tryd.Builder_Extra_169 B b l w h hBw
def Tryd.laysM171_ren : Go.Shelf.Ren := ⟨fun | 171 => 53 | 243 => 75 | 246 => 91 | 283 => 96 | 284 => 97 | 285 => 98 | 286 => 99 | 129 => 101 | 317 => 100 | 318 => 102 | 319 => 103 | 320 => 104 | 337 => 105 | 338 => 106 | n => n, fun | 3 => 3 | 9 => 9 | 2 => 2 | 4 => 4 | 171 => 192 | 0 => 0 | 53 => 185 | 37 => 127 | 5 => 5 | 173 => 195 | 212 => 198 | 51 => 182 | 20 => 20 | 213 => 199 | 46 => 165 | 232 => 202 | 233 => 203 | n => n, fun | 17 => 2 | 18 => 3 | 19 => 4 | n => n⟩
theorem Tryd.laysM171 : Go.Proofs.LaysM.n171 Tryd.prog Tryd.laysM171_ren := {
  mixed := by kernel_rfl
  f129 := Tryd.func101.trans (congrArg some (by kernel_rfl))
  f171 := Tryd.func53.trans (congrArg some (by kernel_rfl))
  f243 := Tryd.func75.trans (congrArg some (by kernel_rfl))
  f246 := Tryd.func91.trans (congrArg some (by kernel_rfl))
  f283 := Tryd.func96.trans (congrArg some (by kernel_rfl))
  f284 := Tryd.func97.trans (congrArg some (by kernel_rfl))
  f285 := Tryd.func98.trans (congrArg some (by kernel_rfl))
  f286 := Tryd.func99.trans (congrArg some (by kernel_rfl))
  f317 := Tryd.func100.trans (congrArg some (by kernel_rfl))
  f318 := Tryd.func102.trans (congrArg some (by kernel_rfl))
  f319 := Tryd.func103.trans (congrArg some (by kernel_rfl))
  f320 := Tryd.func104.trans (congrArg some (by kernel_rfl))
  f337 := Tryd.func105.trans (congrArg some (by kernel_rfl))
  f338 := Tryd.func106.trans (congrArg some (by kernel_rfl))
  t0 := Tryd.underlying0
  a0 := Tryd.isAgg0
  z0 := Tryd.sizeOf0
  v0 := Tryd.zeroValue0
  t2 := Tryd.underlying2
  a2 := Tryd.isAgg2
  z2 := Tryd.sizeOf2
  v2 := Tryd.zeroValue2
  t3 := Tryd.underlying3
  a3 := Tryd.isAgg3
  z3 := Tryd.sizeOf3
  v3 := Tryd.zeroValue3
  t4 := Tryd.underlying4
  a4 := Tryd.isAgg4
  z4 := Tryd.sizeOf4
  v4 := Tryd.zeroValue4
  t5 := Tryd.underlying5
  a5 := Tryd.isAgg5
  z5 := Tryd.sizeOf5
  v5 := Tryd.zeroValue5
  t9 := Tryd.underlying9
  a9 := Tryd.isAgg9
  z9 := Tryd.sizeOf9
  v9 := Tryd.zeroValue9
  t20 := Tryd.underlying20
  a20 := Tryd.isAgg20
  z20 := Tryd.sizeOf20
  v20 := Tryd.zeroValue20
  t37 := Tryd.underlying127
  a37 := Tryd.isAgg127
  z37 := Tryd.sizeOf127
  v37 := Tryd.zeroValue127
  t46 := Tryd.underlying165
  a46 := Tryd.isAgg165
  z46 := Tryd.sizeOf165
  v46 := Tryd.zeroValue165
  t51 := Tryd.underlying182
  a51 := Tryd.isAgg182
  z51 := Tryd.sizeOf182
  v51 := Tryd.zeroValue182
  t53 := Tryd.underlying185
  a53 := Tryd.isAgg185
  z53 := Tryd.sizeOf185
  v53 := Tryd.zeroValue185
  t171 := Tryd.underlying192
  a171 := Tryd.isAgg192
  z171 := Tryd.sizeOf192
  v171 := Tryd.zeroValue192
  t173 := Tryd.underlying195
  a173 := Tryd.isAgg195
  z173 := Tryd.sizeOf195
  v173 := Tryd.zeroValue195
  t212 := Tryd.underlying198
  a212 := Tryd.isAgg198
  z212 := Tryd.sizeOf198
  v212 := Tryd.zeroValue198
  t213 := Tryd.underlying199
  a213 := Tryd.isAgg199
  z213 := Tryd.sizeOf199
  t232 := Tryd.underlying202
  a232 := Tryd.isAgg202
  z232 := Tryd.sizeOf202
  v232 := Tryd.zeroValue202
  t233 := Tryd.underlying203
  a233 := Tryd.isAgg203
  z233 := Tryd.sizeOf203
  v233 := Tryd.zeroValue203
  g17 := by kernel_rfl
  g18 := by kernel_rfl
  g19 := by kernel_rfl
  i0 := by kernel_rfl
  i2 := by kernel_rfl
  i3 := by kernel_rfl
  i4 := by kernel_rfl
  i5 := by kernel_rfl
  i9 := by kernel_rfl
  i20 := by kernel_rfl
  i37 := by kernel_rfl
  i46 := by kernel_rfl
  i51 := by kernel_rfl
  i53 := by kernel_rfl
  i171 := by kernel_rfl
  i173 := by kernel_rfl
  i212 := by kernel_rfl
  i232 := by kernel_rfl
  i233 := by kernel_rfl
  m17 := by kernel_rfl
  m18 := by kernel_rfl
  m19 := by kernel_rfl }
open Go.RowKit Go.Sort Go.Lib in
theorem Tryd.strconv_Itoa (n : Int) (h0 : -9223372036854775808 ≤ n) (h1 : n ≤ 9223372036854775807) (w : World) (htab : Lib.TabIs Tryd.prog w "internal/strconv.uint64pow10" .u64 Lib.pow10Tab) :
    Calls Tryd.prog 53 #[.int .i64 n] w fun e w' => e = .returned (.string ⟨(Lib.itoa n).toArray⟩) ∧ ∃ k os, w' = grow (w.drewN k) os := Any.strconv_Itoa Tryd.laysM171 n h0 h1 w htab
def Tryd.lays212_ren : Go.Shelf.Ren := ⟨fun | 212 => 76 | 263 => 92 | 264 => 93 | n => n, fun | 46 => 165 | 51 => 182 | 146 => 183 | 53 => 185 | 148 => 186 | n => n, fun | n => n⟩
theorem Tryd.lays212 : Go.Proofs.Lays.n212 Tryd.prog Tryd.lays212_ren := {
  mixed := by kernel_rfl
  f212 := Tryd.func76.trans (congrArg some (by kernel_rfl))
  f263 := Tryd.func92.trans (congrArg some (by kernel_rfl))
  f264 := Tryd.func93.trans (congrArg some (by kernel_rfl))
  t46 := Tryd.underlying165
  a46 := Tryd.isAgg165
  z46 := Tryd.sizeOf165
  v46 := Tryd.zeroValue165
  t51 := Tryd.underlying182
  a51 := Tryd.isAgg182
  z51 := Tryd.sizeOf182
  v51 := Tryd.zeroValue182
  t53 := Tryd.underlying185
  a53 := Tryd.isAgg185
  z53 := Tryd.sizeOf185
  v53 := Tryd.zeroValue185
  t146 := Tryd.underlying183
  a146 := Tryd.isAgg183
  z146 := Tryd.sizeOf183
  v146 := Tryd.zeroValue183
  t148 := Tryd.underlying186
  a148 := Tryd.isAgg186
  z148 := Tryd.sizeOf186
  v148 := Tryd.zeroValue186 }
open Go.RowKit Go.Lib in
theorem Tryd.bits_Mul (x y : Nat) (hx : x < 18446744073709551616) (hy : y < 18446744073709551616) (w : World) :
    Calls Tryd.prog 76 #[.int .u64 x, .int .u64 y] w fun e w' => e = .returned (.tuple #[.int .u64 ((x * y / 18446744073709551616 : Nat) : Int), .int .u64 ((x * y % 18446744073709551616 : Nat) : Int)]) ∧ w' = w := Any.bits_Mul Tryd.lays212 x y hx hy w
def Tryd.lays107_ren : Go.Shelf.Ren := ⟨fun | 107 => 77 | 108 => 94 | n => n, fun | 28 => 49 | 3 => 3 | 4 => 4 | 0 => 0 | n => n, fun | n => n⟩
theorem Tryd.lays107 : Go.Proofs.Lays.n107 Tryd.prog Tryd.lays107_ren := {
  mixed := by kernel_rfl
  f107 := Tryd.func77.trans (congrArg some (by kernel_rfl))
  f108 := Tryd.func94.trans (congrArg some (by kernel_rfl))
  t0 := Tryd.underlying0
  a0 := Tryd.isAgg0
  z0 := Tryd.sizeOf0
  v0 := Tryd.zeroValue0
  t3 := Tryd.underlying3
  a3 := Tryd.isAgg3
  z3 := Tryd.sizeOf3
  v3 := Tryd.zeroValue3
  t4 := Tryd.underlying4
  a4 := Tryd.isAgg4
  z4 := Tryd.sizeOf4
  v4 := Tryd.zeroValue4
  t28 := Tryd.underlying49
  a28 := Tryd.isAgg49
  z28 := Tryd.sizeOf49
  v28 := Tryd.zeroValue49 }
open Go.Lib in
theorem Tryd.slices_Contains_int (b off n c : Nat) (zs : List Int) (x : Int) (w : World) (hz : n ≤ zs.length) (hbig : n ≤ 9223372036854775807) (hc : ∀ j, j < zs.length → w.cell? ⟨b, off + j, none⟩ = some (.int .i64 (zs.getD j 0))) :
    Calls Tryd.prog 77 #[.slice (some ⟨b, off, none⟩) n c, .int .i64 x] w fun e w' => e = .returned (.bool ((zs.take n).contains x)) ∧ w' = w := Any.slices_Contains_int Tryd.lays107 b off n c zs x w hz hbig hc
end Go.Proofs
namespace Go.Proofs.YtppcnlkhdgmaiaaDoor
open Go.RowKit

abbrev P10 (w : World) : Prop := Lib.TabIs Tryd.prog w "internal/strconv.uint64pow10" .u64 Lib.pow10Tab

set_option maxRecDepth 100000 in
set_option maxHeartbeats 4000000 in
theorem low_any (b n c m : Nat) (zs : List Int) (w : World) (hz : n = zs.length) (hbig : n ≤ 100000) (hc : ∀ j, j < zs.length → w.cell? ⟨b, 0 + j, none⟩ = some (.int .i64 (zs.getD j 0)))
    (hm : m ≤ 100000) (hlow : ∀ k : Nat, k < m → zs.contains (k : Int) = true) (hfree : zs.contains (m : Int) = false) :
    Calls Tryd.prog 56 #[.slice (some ⟨b, 0, none⟩) n c] w fun e w' => e = .returned (.int .i64 (m : Int)) ∧ w' = w := by
  subst hz
  have HC := hide hc
  have HL := hide hlow
  have HF := hide hfree
  clear hc hlow hfree
  go_enter Tryd.func56, Tryd.ntmps56
  go_wp2_with fail
  go_loopg [3] m (fun gk kk wr => ∃ k : Nat, k ≤ m ∧ gk = m - k ∧ kk = .int .i64 (k : Int) ∧ wr = w)
  case atStart => exact ⟨0, Nat.zero_le _, rfl, rfl, rfl⟩
  case round =>
    obtain ⟨k, hk, rfl, rfl, rfl⟩ := hrel
    by_cases hlt : k < m
    · have hq : (zs.take zs.length).contains (k : Int) = true := by rw [List.take_length]; exact unhide HL k hlt
      go_wp2_with (go_at_call 77; refine (Tryd.slices_Contains_int b 0 zs.length c zs (k : Int) _ (Nat.le_refl _) (by omega) (unhide HC)).mono ?_; rintro e w' ⟨rfl, rfl⟩; rw [hq])
      go_roundg (m - (k + 1))
      case measure => omega
      case rel => exact ⟨k + 1, by omega, rfl, by go_num, rfl⟩
    · have hkm : k = m := by omega
      subst hkm
      have hq : (zs.take zs.length).contains (k : Int) = false := by rw [List.take_length]; exact unhide HF
      go_wp2_with (go_at_call 77; refine (Tryd.slices_Contains_int b 0 zs.length c zs (k : Int) _ (Nat.le_refl _) (by omega) (unhide HC)).mono ?_; rintro e w' ⟨rfl, rfl⟩; rw [hq])
      go_returns
      exact ⟨rfl, rfl⟩

end Go.Proofs.YtppcnlkhdgmaiaaDoor
namespace Go.Proofs.YtppcnlkhdgmaiaaDoor
open Go.RowKit

theorem belG {w W : World} (k : Nat) (os : Array Obj) (h : Below w.heap.size w W) : Below w.heap.size w (Sort.grow (W.drewN k) os) := h.trans (Lib.below_grow _ _ h.size k os)
theorem cG {w : World} {p : Addr} {v : Value} (k : Nat) (os : Array Obj) (h : w.cell? p = some v) : (Sort.grow (w.drewN k) os).cell? p = some v := by
  have hlt : p.block < w.heap.size := by
    rcases Nat.lt_or_ge p.block w.heap.size with h1 | h1
    · exact h1
    · simp [World.cell?, Array.getElem?_eq_none h1] at h
  rw [(Lib.below_grow w.heap.size w (Nat.le_refl _) k os).cell hlt]; exact h
theorem P10.below {w W : World} (h : P10 w) (hb : Below w.heap.size w W) : P10 W := Lib.tabBelow_of_tabIs h W hb

set_option maxRecDepth 100000 in
set_option maxHeartbeats 4000000 in
theorem bw_any (lo hi : Nat) (hlo : lo ≤ 100000) (hhi : hi ≤ 100000) (w : World) (ht : P10 w) :
    Calls Tryd.prog 55 #[.agg #[.int .i64 (lo : Int), .int .i64 (hi : Int)]] w fun e w' => e = .returned (.string ⟨(Lib.itoa lo ++ [45] ++ Lib.itoa hi).toArray⟩) ∧ Below w.heap.size w w' := by
  have HT := hide ht
  clear ht
  have hcat : Hid ((⟨(Lib.itoa lo).toArray⟩ : ByteArray) ++ ⟨#[45]⟩ ++ ⟨(Lib.itoa hi).toArray⟩ = ⟨(Lib.itoa lo ++ [45] ++ Lib.itoa hi).toArray⟩) := by
    apply hide
    apply ByteArray.ext
    simp [ByteArray.data_append]
  have la : (Lib.itoa (lo : Int)).length ≤ 21 := Lib.itoa_length_le _ (by omega) (by omega)
  have lb : (Lib.itoa (hi : Int)).length ≤ 21 := Lib.itoa_length_le _ (by omega) (by omega)
  have n1 : ¬ 9223372036854775807 < (Lib.itoa (lo : Int)).length + 1 := by omega
  have n2 : ¬ 9223372036854775807 < (Lib.itoa (lo : Int)).length + 1 + (Lib.itoa (hi : Int)).length := by omega
  go_enter Tryd.func55, Tryd.ntmps55
  go_upto_region 1 with fail
  have HB := hide (blk_new w #[.int .i64 (lo : Int), .int .i64 (hi : Int)] 79)
  have HBE := hide (belA (.cells #[.int .i64 (lo : Int), .int .i64 (hi : Int)] 79) (Below.refl w.heap.size w))
  generalize hW : (w.alloc (.cells #[.int .i64 (lo : Int), .int .i64 (hi : Int)] 79)) = W at HB HBE ⊢
  clear hW
  have c0 : W.cell? ⟨w.heap.size, 0, none⟩ = some (.int .i64 (lo : Int)) := blk_cell (unhide HB) 0
  have c1 : W.cell? ⟨w.heap.size, 1, none⟩ = some (.int .i64 (hi : Int)) := blk_cell (unhide HB) 1
  go_region_held3 (fun w' => w'.cell? ⟨w.heap.size, 0, none⟩ = some (.int .i64 (lo : Int)) ∧ w'.cell? ⟨w.heap.size, 1, none⟩ = some (.int .i64 (hi : Int))) (refine ⟨?_, ?_⟩ <;> (repeat (first | assumption | apply cD | apply cG)))
    (first | (go_at_call 53; refine (Tryd.strconv_Itoa _ (by omega) (by omega) _ ?_).mono ?_; (refine (unhide HT).below ?_; (repeat (first | exact unhide HBE | apply belD | apply belG))); rintro e w2 ⟨rfl, k, os, rfl⟩))
  all_goals
    clear n1 n2 la lb c0 c1
    go_wp2_with fail
    go_returns
    refine ⟨ret_str (unhide hcat), ?_⟩
    repeat (first | exact unhide HBE | apply belD | apply belG)

end Go.Proofs.YtppcnlkhdgmaiaaDoor
namespace Go.Proofs.YtppcnlkhdgmaiaaDoor
open Go.RowKit

def repC (n k : Nat) : List Value := List.replicate k (.int .i64 (-1)) ++ List.replicate (n - k) (.int .i64 0)

theorem repC_zero (n : Nat) : repC n 0 = List.replicate n (.int .i64 0) := by simp [repC]
theorem repC_full (n : Nat) : repC n n = List.replicate n (.int .i64 (-1)) := by simp [repC]
theorem repC_length {n k : Nat} (h : k ≤ n) : (repC n k).length = n := by simp [repC]; omega
theorem repC_splice {n k c : Nat} : splice (repC n k) k (List.replicate c (.int .i64 (-1))) = repC n (k + c) := by
  unfold splice repC
  rw [List.length_replicate, List.take_left' (by simp), ← List.drop_drop, List.drop_left' (by simp), List.drop_replicate, ← List.append_assoc, List.replicate_append_replicate]
  congr 2
  omega
theorem repC_get {n k j : Nat} (h : j < k) : (repC n k)[j]? = some (.int .i64 (-1)) := by
  unfold repC
  rw [List.getElem?_append_left (by simpa using h), List.getElem?_replicate, if_pos h]
theorem own_full {w : World} {base : Nat} {e : TypeId} {g n : Nat} {xs : List Value} (h : w.ownsRow base e 1 (.slice (some ⟨g, 0, none⟩) n n) n xs) : w.heap[g]? = some (.cells xs.toArray e (0, 0)) := by
  obtain ⟨hl, ⟨hv, _⟩ | ⟨g', cap, cur, hv, _, hh, _, _, hs, ht⟩⟩ := h
  · cases hv
  · cases hv
    rw [hh]
    congr 2
    rw [← ht, List.take_of_length_le (by simpa using Nat.le_of_eq hs)]

theorem made_zero (n : Nat) : (madeCells (Value.int .i64 0).cells (n * 1)).toList = List.replicate n (.int .i64 0) := by
  show (madeCells #[Value.int .i64 0] (n * 1)).toList = _
  rw [toList_madeCells_one, Nat.mul_one]

set_option maxRecDepth 100000 in
set_option maxHeartbeats 400000 in
theorem repeat_any (b n : Nat) (w : World) (hb : w.cell? ⟨b, 0, none⟩ = some (.int .i64 (-1))) (hbl : b < w.heap.size) (hn1 : 1 ≤ n) (hn : n ≤ 1000) :
    Calls Tryd.prog 54 #[.slice (some ⟨b, 0, none⟩) 1 1, .int .i64 (n : Int)] w fun e w' => e = .returned (.slice (some ⟨w.heap.size, 0, none⟩) n n) ∧ w'.heap[w.heap.size]? = some (.cells (List.replicate n (.int .i64 (-1))).toArray 3 (0, 0)) ∧ Below w.heap.size w w' := by
  obtain ⟨i3, hi3, hz30, hz31, hz32⟩ := info_parts Tryd.info3
  have HI3 := hide hi3
  have HZ30 := hide hz30
  have HZ31 := hide hz31
  have HZ32 := hide hz32
  have HB := hide hb
  clear hb hi3 hz30 hz31 hz32
  have hnI : ¬ ((n : Int) < 0) := by omega
  have d1 : (1 * n / 18446744073709551616 : Nat) = 0 := by omega
  have d2 : (1 * n % 18446744073709551616 : Nat) = n := by omega
  have HM := hide (Tryd.bits_Mul 1 n (by omega) (by omega))
  rw [d1, d2] at HM
  clear d1 d2
  go_enter Tryd.func54, Tryd.ntmps54
  go_upto_region 7 with (first
    | (go_at_call 76; refine (unhide HM _).mono ?_; rintro e w1 ⟨rfl, hw⟩; rw [hw]; clear hw w1)
    | (at_make; refine wpList_make_full _ rfl _ _ 49 rfl w.heap.size 3 i3 (.int .i64 0) 1 Tryd.underlying49 (unhide HI3) (unhide HZ30) (unhide HZ31) _ _ _ _ n rfl rfl (by simp) (by simp) (by rw [unhide HZ32]; omega) (by unfold maxLen; omega) (Nat.le_refl _) ?_; intro w2 hown2 hgrow2))
  have HG : Hid (w2.heap[w.heap.size]? = some (.cells (repC n 0).toArray 3 (0, 0))) := by
    have := own_full hown2
    rw [made_zero] at this
    rw [repC_zero]; exact this
  have HB2 := hide ((Below.refl w.heap.size w).grown hgrow2 (Nat.le_refl _) (fun k e => by cases e))
  have HS : Hid (w2.cell? ⟨b, 0, none⟩ = some (.int .i64 (-1))) := by
    show _ = _
    rw [(unhide HB2).cell hbl]; exact unhide HB
  clear hown2 hgrow2 HB
  have HSZ : Hid ((Tryd.prog.info? 3).map (·.size) = some 1) := by
    show _ = _
    rw [unhide HI3]; simp [unhide HZ31]
  have HN : Hid ((List.replicate 1 (Value.int .i64 (-1))).length = Nat.min 1 n) := by
    show _ = _
    rw [List.length_replicate]; exact (Nat.min_eq_left hn1).symm
  have HP : Hid (0 < (List.replicate 1 (Value.int .i64 (-1))).length → (some (⟨w.heap.size, 0, none⟩ : Addr) = some ⟨w.heap.size, 0, none⟩) ∧ ∃ ad, (some (⟨b, 0, none⟩ : Addr)) = some ad ∧ ∀ j v, (List.replicate 1 (Value.int .i64 (-1)))[j]? = some v → w2.cell? (ad.add j) = some v) := by
    intro _
    refine ⟨rfl, _, rfl, ?_⟩
    intro j v hj
    match j, hj with
    | 0, hj => cases hj; exact unhide HS
  have HF : Hid (0 + (List.replicate 1 (Value.int .i64 (-1))).length ≤ (repC n 0).length) := by
    show _ ≤ _
    rw [repC_length (Nat.zero_le _)]; simpa using hn1
  have HO : Hid (∀ v ∈ (List.replicate 1 (Value.int .i64 (-1))), v.oneCell' = true) := by
    intro v hv
    cases List.eq_of_mem_replicate hv; rfl
  have HE : Hid (splice (repC n 0) 0 (List.replicate 1 (.int .i64 (-1))) = repC n 1) := repC_splice
  go_wp2_with (show wpList _ _ _ ({ dst := some 33, op := _, type := _, pos := _, after := _, guard := _ } :: _) _ _; refine wpList_copy_splice rfl (.tmp 31) (.tmp 32) 49 49 rfl 3 Tryd.underlying49 (unhide HSZ) _ _ _ _ _ _ rfl rfl w.heap.size 0 (repC n 0) 3 (unhide HG) (List.replicate 1 (.int .i64 (-1))) (unhide HN) (unhide HP) (unhide HF) (unhide HO) w.heap.size w (unhide HB2) (Nat.le_refl _) ?_; intro w3 hg3 hb3; rw [unhide HE] at hg3; have HB3 := hide hb3; clear hb3 HP HS HG HB2 HE)
  go_loopg [8] (n - 1) (fun gk kk wr => ∃ k : Nat, 1 ≤ k ∧ k ≤ n ∧ gk = n - k ∧ kk = .int .i64 (k : Int) ∧ wr.heap[w.heap.size]? = some (.cells (repC n k).toArray 3 (0, 0)) ∧ Below w.heap.size w wr)
  case atStart => exact ⟨1, Nat.le_refl _, hn1, rfl, rfl, hg3, unhide HB3⟩
  case round =>
    obtain ⟨k, hk1, hk, rfl, rfl, hg, hbe⟩ := hrel
    have HG := hide hg
    have HBE := hide hbe
    clear hg hbe
    by_cases hlt : k < n
    · obtain ⟨c, hc⟩ : ∃ c, c = min k (n - k) := ⟨_, rfl⟩
      obtain ⟨X, hX⟩ : ∃ X, X = List.replicate c (Value.int .i64 (-1)) := ⟨_, rfl⟩
      have hcn : k + c ≤ n := by omega
      have hck : c ≤ k := by omega
      have hc1 : 1 ≤ c := by omega
      have HX : Hid (X.length = c) := by
        show _ = _
        rw [hX]; simp
      have HN2 : Hid (X.length = Nat.min k (n - k)) := by
        show _ = _
        rw [unhide HX, hc]
      have HP2 : Hid (0 < X.length → (some (⟨w.heap.size, k, none⟩ : Addr) = some ⟨w.heap.size, k, none⟩) ∧ ∃ ad, (some (⟨w.heap.size, 0, none⟩ : Addr)) = some ad ∧ ∀ j v, X[j]? = some v → wr.cell? (ad.add j) = some v) := by
        intro _
        refine ⟨rfl, _, rfl, ?_⟩
        intro j v hj
        rw [hX, List.getElem?_replicate] at hj
        split at hj
        · cases hj
          rename_i hjc
          have := blk_cell (unhide HG) j
          rw [show (Addr.add ⟨w.heap.size, 0, none⟩ j : Addr) = ⟨w.heap.size, j, none⟩ by simp [Addr.add]; intro h; exact h.symm]
          rw [this]
          simpa using repC_get (n := n) (k := k) (j := j) (by omega)
        · cases hj
      have HF2 : Hid (k + X.length ≤ (repC n k).length) := by
        show _ ≤ _
        rw [repC_length hk, unhide HX]; exact hcn
      have HO2 : Hid (∀ v ∈ X, v.oneCell' = true) := by
        intro v hv
        rw [hX] at hv
        cases List.eq_of_mem_replicate hv; rfl
      have HE2 : Hid (splice (repC n k) k X = repC n (k + c)) := by
        show _ = _
        rw [hX]; exact repC_splice
      have k0 : (0 : Int) ≤ (k : Int) := by omega
      have k1 : (k : Int) ≤ (n : Int) := by omega
      have k2 : (k : Int) < (n : Int) := by omega
      have k3 : ¬ ((k : Int) = (n : Int)) := by omega
      have k4 : ¬ (k = n) := by omega
      clear hc hX HN HF HO
      go_upto_region 9 with fail
      go_region_law (refine step_copy_splice rfl (.tmp 41) (.tmp 44) 49 49 rfl 3 Tryd.underlying49 (unhide HSZ) (some ⟨w.heap.size, k, none⟩) (some ⟨w.heap.size, 0, none⟩) (n - k) (n - k) k n (by simp [Act.eval, Act.put]; omega) (by simp [Act.eval, Act.put]) w.heap.size k (repC n k) 3 (unhide HG) X (unhide HN2) (unhide HP2) (unhide HF2) (unhide HO2) w.heap.size w ((unhide HBE).drew) (Nat.le_refl _) ?_; intro w4 hg4 hb4)
      rw [unhide HE2] at hg4
      have HG4 := hide hg4
      have HB4 := hide hb4
      have hXl := unhide HX
      clear hg4 hb4 HE2 HP2 HF2 HO2 HN2 HX
      rw [hXl]
      clear hXl
      go_wp2_with fail
      go_roundg (n - (k + c))
      case measure => omega
      case rel =>
        have hw : IntKind.i64.wrap ((k : Int) + (c : Int)) = (k : Int) + (c : Int) := IntWalk.i64_in _ ⟨by omega, by omega⟩
        exact ⟨k + c, by omega, hcn, rfl, by rw [hw]; go_num, unhide (unhide HG4), unhide HB4⟩
    · have hkn : k = n := by omega
      subst hkn
      go_wp2_with fail
      go_returns
      exact ⟨rfl, by rw [← repC_full]; exact unhide HG, unhide HBE⟩

end Go.Proofs.YtppcnlkhdgmaiaaDoor
