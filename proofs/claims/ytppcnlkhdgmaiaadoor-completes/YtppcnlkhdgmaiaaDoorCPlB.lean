/- What raise does: one round over the limits. What limits does: the limits of an order, step by step. What earliestTimes and timetableOf do: the least times of an order, when it is over, whether that is in time. What timetableOf does: the least times of an order, when it is over, whether that is in time. What lies there while the orders are gone through: the iterator's own variables, and what it leaves alone. What slices.Clone does with a slice of turns. What firstHopeless does: the step with which the first rest ends that no times can keep. -/
import Derived.Test.YtppcnlkhdgmaiaaDoorCPlC
import Derived.Test.YtppcnlkhdgmaiaaDoorCPu
import Derived.Laws.Cover3
import Derived.Test.YtppcnlkhdgmaiaaDoorCPlA
import Derived.Deep.RegionHeld3
import Derived.IntWalk
namespace Go.Proofs.YtppcnlkhdgmaiaaDoor
open Go.RowKit

def intCells (n : Nat) (f : Nat → Int) : List Value := (List.range n).map fun p => .int .i64 (f p)
theorem intCells_at {n : Nat} {f : Nat → Int} {p : Nat} (h : p < n) : (intCells n f)[p]? = some (.int .i64 (f p)) := by simp [intCells, h]
theorem intCells_set {n : Nat} {f : Nat → Int} {p : Nat} (v : Int) : (intCells n f).set p (.int .i64 v) = intCells n (Hx.updT f p v) := by
  apply List.ext_getElem?
  intro i
  by_cases hi : i < n
  · rw [intCells_at hi, List.getElem?_set]
    by_cases e : p = i
    · subst e
      simp [intCells, hi, Hx.updT]
    · have e' : i ≠ p := fun h => e h.symm
      rw [if_neg e, intCells_at hi]
      simp [Hx.updT, e']
  · rw [List.getElem?_eq_none (by simp [intCells]; omega), List.getElem?_eq_none (by simp [intCells]; omega)]
def limCells (l : Hx.Lim) : List Value := [.int .i64 (l.fr : Int), .int .i64 (l.to : Int), .int .i64 l.more]
def limsCells (ls : List Hx.Lim) : List Value := ls.flatMap limCells
theorem limsCells_append (a b : List Hx.Lim) : limsCells (a ++ b) = limsCells a ++ limsCells b := by simp [limsCells]
theorem limsCells_at (ls : List Hx.Lim) (j : Nat) (l : Hx.Lim) (h : ls[j]? = some l) (i : Nat) (hi : i < 3) : (limsCells ls)[j * 3 + i]? = (limCells l)[i]? := by
  induction ls generalizing j with
  | nil => simp at h
  | cons z r ih =>
    have e : limsCells (z :: r) = limCells z ++ limsCells r := rfl
    rw [e]
    have hl : (limCells z).length = 3 := rfl
    cases j with
    | zero =>
      simp at h
      subst h
      rw [Nat.zero_mul, Nat.zero_add, List.getElem?_append_left (by omega)]
    | succ j =>
      rw [List.getElem?_append_right (by omega), hl, show (j + 1) * 3 + i - 3 = j * 3 + i by omega]
      exact ih j (by simpa using h)

theorem grown_al {w w' : World} {row : Option Nat} (h : w.grownBy w' row) (o : Obj) : w.grownBy (w'.alloc o) row := grown_trans h (grown_alloc w' o row)
theorem grown_st {w w' : World} {g : Nat} (h : w.grownBy w' (some g)) (j : Nat) (u : Value) : w.grownBy (w'.setCell ⟨g, j, none⟩ u) (some g) := grown_trans h (grown_set w' g j u)

set_option maxRecDepth 100000 in
set_option maxHeartbeats 4000000 in
theorem raise_any (base gt capt n : Nat) (lv : Value) (ls : List Hx.Lim) (f : Nat → Int) (B : Int) (w : World) (hT : w.ownsRow base 3 1 (.slice (some ⟨gt, 0, none⟩) n capt) n (intCells n f)) (hL : w.ownsRow 0 191 3 lv ls.length (limsCells ls))
    (hin : Hx.InL n ls) (hmo : ∀ l ∈ ls, -4000 ≤ l.more ∧ l.more ≤ 4000) (hB : ∀ i, i < n → 0 ≤ f i ∧ f i ≤ B) (hB2 : 0 ≤ B ∧ B + 4000 * ls.length ≤ 1000000000) (hls : ls.length ≤ 1000) :
    Calls Tryd.prog 89 #[.slice (some ⟨gt, 0, none⟩) n capt, lv] w fun e w' => e = .returned (.bool (Hx.raiseF ls f false).2) ∧ w'.ownsRow base 3 1 (.slice (some ⟨gt, 0, none⟩) n capt) n (intCells n (Hx.raiseF ls f false).1) ∧ w.grownBy w' (some gt) ∧ ∀ i, i < n → 0 ≤ (Hx.raiseF ls f false).1 i ∧ (Hx.raiseF ls f false).1 i ≤ B + 4000 * ls.length := by
  have HT := hide hT
  have HL := hide hL
  have HIN := hide hin
  have HMO := hide hmo
  have HB := hide hB
  obtain ⟨ao, capl, rfl⟩ := own_form hL
  clear hT hL hin hmo hB
  go_enter Tryd.func89, Tryd.ntmps89
  go_wp2_with fail
  go_loopg [5, 11] ls.length (fun gk fl i wr => ∃ (k : Nat) (h : Nat → Int) (b : Bool), k ≤ ls.length ∧ gk = ls.length - k ∧ i = .int .i64 (k : Int) ∧ fl = .bool b ∧ Hx.raiseF (ls.drop k) h b = Hx.raiseF ls f false ∧ (∀ i, i < n → 0 ≤ h i ∧ h i ≤ B + 4000 * k) ∧ wr.ownsRow base 3 1 (.slice (some ⟨gt, 0, none⟩) n capt) n (intCells n h) ∧ w.grownBy wr (some gt))
  case atStart => exact ⟨0, f, false, Nat.zero_le _, rfl, rfl, rfl, rfl, by simpa using unhide HB, unhide HT, World.grownBy.refl _ _⟩
  case round =>
    obtain ⟨k, h, b, hk, rfl, rfl, rfl, hfin, hbd, hrow, hgr⟩ := hrel
    have HFIN := hide hfin
    have HBD := hide hbd
    have HROW := hide hrow
    have HGR := hide hgr
    clear hfin hbd hrow hgr
    by_cases hlt : k < ls.length
    · obtain ⟨gl, capl2, el, _, hgl⟩ := own_pos (unhide HL) (by omega)
      cases el
      obtain ⟨l, hl⟩ : ∃ l, ls[k]? = some l := ⟨ls[k], List.getElem?_eq_getElem hlt⟩
      have HFD := hide ((Hx.raiseF_drop hl h b).symm.trans (unhide HFIN))
      obtain ⟨hfr, hto⟩ := unhide HIN l (List.mem_of_getElem? hl)
      obtain ⟨hm1, hm2⟩ := unhide HMO l (List.mem_of_getElem? hl)
      obtain ⟨b1, b2⟩ := unhide HBD l.fr hfr
      obtain ⟨b3, b4⟩ := unhide HBD l.to hto
      have hapart : gl ≠ gt := by
        intro e
        rcases own_apart (unhide HL) (unhide HT) (by decide) with h1 | h1
        · cases h1
        · exact h1 (by simp [Value.ownBlock, e])
      have cl : ∀ i, i < 3 → wr.cell? ⟨gl, k * 3 + i, none⟩ = (limCells l)[i]? := fun i hi => by
        have h1 : wr.heap[gl]? = w.heap[gl]? := (unhide HGR).block gl hgl (by simp [hapart])
        rw [World.cell?_of_block (a := ⟨gl, k * 3 + i, none⟩) h1, (unhide HL).cellAt (k * 3 + i) (by omega)]
        exact limsCells_at ls k l hl i hi
      have l0 : wr.cell? ⟨gl, k * 3, none⟩ = some (.int .i64 (l.fr : Int)) := cl 0 (by omega)
      have l1 : wr.cell? ⟨gl, k * 3 + 1, none⟩ = some (.int .i64 (l.to : Int)) := cl 1 (by omega)
      have l2 : wr.cell? ⟨gl, k * 3 + 2, none⟩ = some (.int .i64 l.more) := cl 2 (by omega)
      clear cl hl
      go_upto_region 5 with fail
      have HBX := hide (blk_new wr #[.int .i64 (l.fr : Int), .int .i64 (l.to : Int), .int .i64 l.more] 191)
      have HROW1 := hide ((unhide HROW).alloc (.cells #[.int .i64 (l.fr : Int), .int .i64 (l.to : Int), .int .i64 l.more] 191))
      have HGR1 := hide (grown_al (unhide HGR) (.cells #[.int .i64 (l.fr : Int), .int .i64 (l.to : Int), .int .i64 l.more] 191))
      clear l0 l1 l2
      obtain ⟨xb, hxb⟩ : ∃ xb, xb = wr.heap.size := ⟨_, rfl⟩
      rw [← hxb] at HBX ⊢
      clear hxb
      generalize wr.alloc (.cells #[.int .i64 (l.fr : Int), .int .i64 (l.to : Int), .int .i64 l.more] 191) = w1 at *
      have x0 : w1.cell? ⟨xb, 0, none⟩ = some (.int .i64 (l.fr : Int)) := blk_cell (unhide HBX) 0
      have x1 : w1.cell? ⟨xb, 1, none⟩ = some (.int .i64 (l.to : Int)) := blk_cell (unhide HBX) 1
      have x2 : w1.cell? ⟨xb, 2, none⟩ = some (.int .i64 l.more) := blk_cell (unhide HBX) 2
      obtain ⟨a, ha⟩ : ∃ a, a = h l.fr := ⟨_, rfl⟩
      obtain ⟨c, hc⟩ : ∃ c, c = h l.to := ⟨_, rfl⟩
      rw [← ha] at b1 b2
      rw [← hc] at b3 b4
      have t0 : w1.cell? ⟨gt, l.fr, none⟩ = some (.int .i64 a) := by rw [(unhide HROW1).cellAt l.fr (by omega), ha]; exact intCells_at hfr
      have t1 : w1.cell? ⟨gt, l.to, none⟩ = some (.int .i64 c) := by rw [(unhide HROW1).cellAt l.to (by omega), hc]; exact intCells_at hto
      have tf : w1.frozen? ⟨gt, l.to, none⟩ = false := (unhide HROW1).frozenAt l.to
      have HA := hide ha
      have HC := hide hc
      have hfrI : (l.fr : Int) < (n : Int) := by omega
      have htoI : (l.to : Int) < (n : Int) := by omega
      clear ha hc
      by_cases hcmp : c < a + l.more
      · have HNEW : Hid (Hx.raiseF (ls.drop (k + 1)) (Hx.updT h l.to (a + l.more)) true = Hx.raiseF ls f false) := by
          show _ = _
          rw [← unhide HFD, if_pos (by rw [← unhide HA, ← unhide HC]; exact hcmp), ← unhide HA]
        go_wp2_with fail
        go_quiet (fail)
        go_wp2_with fail
        go_roundg (ls.length - (k + 1))
        case measure => omega
        case rel =>
          refine ⟨k + 1, Hx.updT h l.to (a + l.more), true, by omega, rfl, by go_num, rfl, unhide HNEW, fun i hi => ?_, ?_, ?_⟩
          · have := unhide HBD i hi
            unfold Hx.updT
            split
            · constructor <;> omega
            · constructor <;> omega
          · have hs := ((unhide HROW1).stored l.to (.int .i64 (a + l.more))).1
            rw [intCells_set] at hs
            exact hs
          · exact grown_st (grown_trans (unhide HGR1) (grown_drewN _ _ _)) _ _
      · have HNEW : Hid (Hx.raiseF (ls.drop (k + 1)) h b = Hx.raiseF ls f false) := by
          show _ = _
          rw [← unhide HFD, if_neg (by rw [← unhide HA, ← unhide HC]; exact hcmp)]
        have hcmp' : decide (c < a + l.more) = false := by simpa using hcmp
        go_wp2_with fail
        go_quiet (fail)
        go_wp2_with fail
        go_roundg (ls.length - (k + 1))
        case measure => omega
        case rel =>
          refine ⟨k + 1, h, b, by omega, rfl, by go_num, rfl, unhide HNEW, fun i hi => ?_, unhide HROW1, grown_trans (unhide HGR1) (grown_drewN _ _ _)⟩
          have := unhide HBD i hi
          constructor <;> omega
    · have hke : k = ls.length := by omega
      have hfin : Hid (Hx.raiseF ls f false = (h, b)) := by
        show _ = _
        rw [← unhide HFIN, hke, List.drop_length]; rfl
      have hbd : Hid (∀ i, i < n → 0 ≤ h i ∧ h i ≤ B + 4000 * ls.length) := by rw [← hke]; exact unhide HBD
      clear hke
      have hkI : decide ((k : Int) < (ls.length : Int)) = false := by simp; omega
      go_wp2_with fail
      go_returns
      rw [unhide hfin]
      exact ⟨rfl, unhide HROW, unhide HGR, unhide hbd⟩

end Go.Proofs.YtppcnlkhdgmaiaaDoor
namespace Go.Proofs.YtppcnlkhdgmaiaaDoor
open Go.RowKit

namespace Hx
/-- Of a plate, the place of its last turn so far (0: none yet). -/
def lastIx (o : List Trn) : Nat → Nat → Nat
  | 0, _ => 0
  | i + 1, p => match o[i]? with | some t => if p = t.pl then i else lastIx o i p | none => lastIx o i p
theorem lastIx_lt (o : List Trn) (p : Nat) : ∀ i, 0 < i → lastIx o i p < i
  | 0, h => absurd h (by omega)
  | i + 1, _ => by
    have : lastIx o i p ≤ i := by
      by_cases h : 0 < i
      · have := lastIx_lt o p i h; omega
      · have : i = 0 := by omega
        subst this; simp [lastIx]
    rw [lastIx]
    split
    · split <;> omega
    · omega
theorem lastIx_le (o : List Trn) (p i : Nat) : lastIx o i p ≤ i := by
  by_cases h : 0 < i
  · have := lastIx_lt o p i h; omega
  · have : i = 0 := by omega
    subst this; simp [lastIx]
theorem lastIx_step {o : List Trn} {i : Nat} {t : Trn} (h : o[i]? = some t) (p : Nat) : lastIx o (i + 1) p = if p = t.pl then i else lastIx o i p := by rw [lastIx, h]
/-- The limits that one turn brings. -/
def lim1 (J : Nat) (o : List Trn) (i : Nat) : List Lim := if 0 < i then match o[i - 1]? with | some a => [⟨i - 1, i, (J : Int) + a.x.hi⟩] | none => [] else []
def lim2 (J : Nat) (o : List Trn) (i : Nat) (t : Trn) : List Lim :=
  if t.x.rest then match o[lastIx o i t.pl]? with | some a => [⟨lastIx o i t.pl, i, (J : Int) + a.x.hi + t.x.mn⟩, ⟨i, lastIx o i t.pl, -((a.x.lo : Int) + t.x.mx - J)⟩] | none => [] else []
def limAt (J : Nat) (o : List Trn) (i : Nat) : List Lim := match o[i]? with | none => [] | some t => lim1 J o i ++ lim2 J o i t
def limsOf (J : Nat) (o : List Trn) : List Lim := (List.range o.length).flatMap (limAt J o)
theorem limAt_len (J : Nat) (o : List Trn) (i : Nat) : (limAt J o i).length ≤ 3 := by
  unfold limAt lim1 lim2
  repeat' split
  all_goals simp
theorem lim1_len (J : Nat) (o : List Trn) (i : Nat) : (lim1 J o i).length ≤ 1 := by
  unfold lim1
  split
  · split <;> simp
  · simp
theorem limsUp_len (J : Nat) (o : List Trn) : ∀ k, ((List.range k).flatMap (limAt J o)).length ≤ 3 * k
  | 0 => by simp
  | k + 1 => by
    have := limsUp_len J o k
    have := limAt_len J o k
    rw [List.range_succ, List.flatMap_append, List.length_append]
    have e : (List.flatMap (limAt J o) [k]).length = (limAt J o k).length := by simp
    omega
theorem limsUp_succ {J : Nat} {o : List Trn} {k : Nat} {t : Trn} (h : o[k]? = some t) : (List.range (k + 1)).flatMap (limAt J o) = ((List.range k).flatMap (limAt J o) ++ lim1 J o k) ++ lim2 J o k t := by
  rw [List.range_succ, List.flatMap_append]
  simp [limAt, h]
end Hx

theorem Tryd.info191 : (Tryd.prog.info? 191).map (fun i => (i.zero, i.size, i.bytes)) = some (some (.agg #[.int .i64 0, .int .i64 0, .int .i64 0]), 3, 24) := by kernel_rfl
theorem limCells_one (l : Hx.Lim) : ∀ u ∈ limCells l, u.oneCell' = true := by
  intro u hu
  simp [limCells] at hu
  rcases hu with rfl | rfl | rfl <;> rfl
theorem limsCells_one (ls : List Hx.Lim) : ∀ u ∈ limsCells ls, u.oneCell' = true := by
  intro u hu
  obtain ⟨l, _, h⟩ := List.mem_flatMap.1 hu
  exact limCells_one l u h

/-- What lies there while the limits are made. -/
structure LmI (w wr : World) (J K D : Nat) (v : Value) (m : Nat) (f : Nat → Nat) (l : List Hx.Lim) (lv : Value) : Prop where
  row : wr.ownsRow (w.heap.size + 2) 191 3 lv l.length (limsCells l)
  last : wr.ownsRow (w.heap.size + 1) 3 1 (.slice (some ⟨w.heap.size + 1, 0, none⟩) m m) m (natCells m f)
  box : wr.heap[w.heap.size]? = some (.cells #[.int .i64 (J : Int), .int .i64 (K : Int), .int .i64 (D : Int), v] 75 (0, 0))
  be : Below w.heap.size w wr
theorem LmI.below {w wr wr' : World} {J K D : Nat} {v : Value} {m : Nat} {f : Nat → Nat} {l : List Hx.Lim} {lv : Value} (h : LmI w wr J K D v m f l lv) (hb : Below wr.heap.size wr wr') : LmI w wr' J K D v m f l lv :=
  ⟨own_below h.row hb, own_below h.last hb, (hb.block _ (lt_of_block h.box)).trans h.box, h.be.trans (hb.mono h.be.size)⟩
theorem LmI.app {w wr wr' : World} {J K D : Nat} {v : Value} {m : Nat} {f : Nat → Nat} {l l' : List Hx.Lim} {lv lv' : Value} (h : LmI w wr J K D v m f l lv) (hr : wr'.ownsRow (w.heap.size + 2) 191 3 lv' (l.length + l'.length) (limsCells l ++ limsCells l')) (hg : wr.grownBy wr' lv.ownBlock) : LmI w wr' J K D v m f (l ++ l') lv' :=
  ⟨by rw [limsCells_append, List.length_append]; exact hr, h.last.kept hg (own_apart h.last h.row (by decide)), blk_kept h.box hg (fun e => own_not_box h.row h.box (by decide) e.symm),
    h.be.grown hg h.be.size (fun k e => by have := (h.row.lt k e).1; omega)⟩
theorem natCells_set {n : Nat} {f : Nat → Nat} {p : Nat} (v : Nat) : (natCells n f).set p (.int .i64 (v : Int)) = natCells n (fun q => if q = p then v else f q) := by
  apply List.ext_getElem?
  intro i
  by_cases hi : i < n
  · rw [natCells_at hi, List.getElem?_set]
    by_cases e : p = i
    · subst e
      simp [natCells, hi]
    · have e' : i ≠ p := fun h => e h.symm
      rw [if_neg e, natCells_at hi]
      simp [e']
  · rw [List.getElem?_eq_none (by simp [natCells]; omega), List.getElem?_eq_none (by simp [natCells]; omega)]
theorem LmI.put {w wr : World} {J K D : Nat} {v : Value} {m : Nat} {f : Nat → Nat} {l : List Hx.Lim} {lv : Value} (h : LmI w wr J K D v m f l lv) (p k : Nat) : LmI w (wr.setCell ⟨w.heap.size + 1, p, none⟩ (.int .i64 (k : Int))) J K D v m (fun q => if q = p then k else f q) l lv := by
  have hs := h.last.stored p (.int .i64 (k : Int))
  rw [natCells_set] at hs
  refine ⟨h.row.kept hs.2 (by rcases own_apart h.row h.last (by decide) with e | e; exact Or.inl e; exact Or.inr e), hs.1, blk_set_other h.box (by omega) _ _, h.be.setCell (by show _ ≤ w.heap.size + 1; omega) _⟩

set_option maxRecDepth 100000 in
set_option maxHeartbeats 8000000 in
theorem limits_any (J K D : Nat) (v ov : Value) (base : Nat) (ps : List (List Hx.Stp)) (o : List Hx.Trn) (w : World) (hps : Plts w base v ps) (hn : 0 < ps.length) (hl : ps.length ≤ 121) (ho : Trns w 0 ov o) (hol : o.length ≤ 100)
    (hpl : ∀ t ∈ o, t.pl < ps.length) (hsm : ∀ t ∈ o, t.x.lo < 1000 ∧ t.x.hi < 1000 ∧ t.x.mn < 1000 ∧ t.x.mx < 1000) (hJ : J < 10) :
    Calls Tryd.prog 88 #[.agg #[.int .i64 (J : Int), .int .i64 (K : Int), .int .i64 (D : Int), v], ov] w fun e w' => ∃ lv, e = .returned lv ∧ w'.ownsRow w.heap.size 191 3 lv (Hx.limsOf J o).length (limsCells (Hx.limsOf J o)) ∧ Below w.heap.size w w' := by
  have HO := hide ho
  have HPL := hide hpl
  have HSM := hide hsm
  obtain ⟨g, cap, rfl, hg⟩ : ∃ g cap, v = .slice (some ⟨g, 0, none⟩) ps.length cap ∧ g < w.heap.size := by
    obtain ⟨vs, hvs, hpp⟩ := hps
    obtain ⟨g, cap, e, _, hg⟩ := own_pos hvs hn
    exact ⟨g, cap, e, hg⟩
  obtain ⟨ao, capo, rfl⟩ := own_form ho
  obtain ⟨i0, hi, hz0, hz1, hz2⟩ := info_parts Tryd.info191
  obtain ⟨i3, hi3, hz30, hz31, hz32⟩ := info_parts Tryd.info3
  have HI := hide hi
  have HZ0 := hide hz0
  have HZ1 := hide hz1
  have HZ2 := hide hz2
  have HI3 := hide hi3
  have HZ30 := hide hz30
  have HZ31 := hide hz31
  have HZ32 := hide hz32
  clear hps ho hpl hsm hi hz0 hz1 hz2 hi3 hz30 hz31 hz32
  go_enter Tryd.func88, Tryd.ntmps88
  go_wp2_with (at_make; refine wpList_make_full _ rfl _ _ 49 rfl (w.heap.size + 1) 3 i3 (.int .i64 0) 1 Tryd.underlying49 (unhide HI3) (unhide HZ30) (unhide HZ31) _ _ _ _ ps.length rfl rfl (by simp) (by simp) (by rw [unhide HZ32]; omega) (by unfold maxLen; omega) (by simp) ?_; intro w1 hown1 hgrow1)
  have HINI : Hid (LmI w w1 J K D (.slice (some ⟨g, 0, none⟩) ps.length cap) ps.length (Hx.lastIx o 0) [] (.slice none 0 0)) := by
    refine ⟨World.ownsRow_nil _ _ _ _, ?_, blk_kept (blk_new w _ _) hgrow1 (by simp), (belA _ (Below.refl _ _)).grown hgrow1 (by simp) (fun k e => by cases e)⟩
    have e1 : (madeCells (Value.int .i64 0).cells (ps.length * 1)).toList = natCells ps.length (Hx.lastIx o 0) := by
      show (madeCells #[Value.int .i64 0] (ps.length * 1)).toList = _
      rw [toList_madeCells_one, Nat.mul_one]
      apply List.ext_getElem?
      intro i
      by_cases hi : i < ps.length
      · rw [natCells_at hi]; simp [hi, Hx.lastIx]
      · rw [List.getElem?_eq_none (by simp; omega), List.getElem?_eq_none (by simp [natCells]; omega)]
    rw [e1] at hown1
    simpa using hown1
  clear hown1 hgrow1
  go_loopg [5, 17] o.length (fun gk lv i wr => ∃ (k : Nat) (l : List Hx.Lim), k ≤ o.length ∧ gk = o.length - k ∧ i = .int .i64 (k : Int) ∧ l = (List.range k).flatMap (Hx.limAt J o) ∧ LmI w wr J K D (.slice (some ⟨g, 0, none⟩) ps.length cap) ps.length (Hx.lastIx o k) l lv)
  case atStart => exact ⟨0, [], Nat.zero_le _, rfl, rfl, rfl, unhide HINI⟩
  case round =>
    clear HINI
    obtain ⟨k, l, hk, rfl, rfl, hls, hlm⟩ := hrel
    obtain ⟨al, capl, rfl⟩ := own_form hlm.row
    have hll : l.length ≤ 3 * k := by rw [hls]; exact Hx.limsUp_len J o k
    have HLS := hide hls
    have HLM := hide hlm
    clear hls hlm
    by_cases hlt : k < o.length
    · obtain ⟨go, capo2, eo, _, hgo⟩ := own_pos (unhide HO) (by omega)
      cases eo
      obtain ⟨t, ht⟩ : ∃ t, o[k]? = some t := ⟨o[k], List.getElem?_eq_getElem hlt⟩
      have htp : t.pl < ps.length := unhide HPL t (List.mem_of_getElem? ht)
      obtain ⟨st1, st2, st3, st4⟩ := unhide HSM t (List.mem_of_getElem? ht)
      have HOC : Hid (∀ W : World, Below w.heap.size w W → ∀ j a, o[j]? = some a → ∀ i, i < 8 → W.cell? ⟨go, j * 8 + i, none⟩ = (trnCells a)[i]?) := fun W hW j a ha i hi => by
        have hj := Hx.getElem?_lt ha
        rw [hW.cell (p := ⟨go, j * 8 + i, none⟩) hgo, (unhide HO).cellAt (j * 8 + i) (by omega)]
        exact trnsCells_at o j a ha i hi
      have x0 : wr.cell? ⟨go, k * 8, none⟩ = some (.int .i64 (t.x.lo : Int)) := unhide HOC wr (unhide HLM).be k t ht 0 (by omega)
      have x1 : wr.cell? ⟨go, k * 8 + 1, none⟩ = some (.int .i64 (t.x.hi : Int)) := unhide HOC wr (unhide HLM).be k t ht 1 (by omega)
      have x2 : wr.cell? ⟨go, k * 8 + 2, none⟩ = some (.bool t.x.rest) := unhide HOC wr (unhide HLM).be k t ht 2 (by omega)
      have x3 : wr.cell? ⟨go, k * 8 + 3, none⟩ = some (.int .i64 (t.x.mn : Int)) := unhide HOC wr (unhide HLM).be k t ht 3 (by omega)
      have x4 : wr.cell? ⟨go, k * 8 + 4, none⟩ = some (.int .i64 (t.x.mx : Int)) := unhide HOC wr (unhide HLM).be k t ht 4 (by omega)
      have x5 : wr.cell? ⟨go, k * 8 + 5, none⟩ = some (.int .i64 (t.pl : Int)) := unhide HOC wr (unhide HLM).be k t ht 5 (by omega)
      have x6 : wr.cell? ⟨go, k * 8 + 6, none⟩ = some (.int .i64 (t.no : Int)) := unhide HOC wr (unhide HLM).be k t ht 6 (by omega)
      have x7 : wr.cell? ⟨go, k * 8 + 7, none⟩ = some (.bool t.beg) := unhide HOC wr (unhide HLM).be k t ht 7 (by omega)
      have HTK := hide ht
      clear ht
      go_upto_region 6 with fail
      have HTB := hide (blk_new wr #[.int .i64 (t.x.lo : Int), .int .i64 (t.x.hi : Int), .bool t.x.rest, .int .i64 (t.x.mn : Int), .int .i64 (t.x.mx : Int), .int .i64 (t.pl : Int), .int .i64 (t.no : Int), .bool t.beg] 83)
      have HLM1 := hide ((unhide HLM).below (belA (.cells #[.int .i64 (t.x.lo : Int), .int .i64 (t.x.hi : Int), .bool t.x.rest, .int .i64 (t.x.mn : Int), .int .i64 (t.x.mx : Int), .int .i64 (t.pl : Int), .int .i64 (t.no : Int), .bool t.beg] 83) (Below.refl _ _)))
      clear x0 x1 x2 x3 x4 x5 x6 x7 HLM
      obtain ⟨tb, htb⟩ : ∃ tb, tb = wr.heap.size := ⟨_, rfl⟩
      rw [← htb] at HTB ⊢
      clear htb
      generalize wr.alloc (.cells #[.int .i64 (t.x.lo : Int), .int .i64 (t.x.hi : Int), .bool t.x.rest, .int .i64 (t.x.mn : Int), .int .i64 (t.x.mx : Int), .int .i64 (t.pl : Int), .int .i64 (t.no : Int), .bool t.beg] 83) = w1 at *
      go_upto_if 23 with fail
      go_cut [5] (fun s5 wc => ∃ lv, s5 = lv ∧ LmI w wc J K D (.slice (some ⟨g, 0, none⟩) ps.length cap) ps.length (Hx.lastIx o k) (l ++ Hx.lim1 J o k) lv ∧ wc.heap[tb]? = some (.cells #[.int .i64 (t.x.lo : Int), .int .i64 (t.x.hi : Int), .bool t.x.rest, .int .i64 (t.x.mn : Int), .int .i64 (t.x.mx : Int), .int .i64 (t.pl : Int), .int .i64 (t.no : Int), .bool t.beg] 83 (0, 0)))
      case first =>
        by_cases hk0 : 0 < k
        · obtain ⟨kp, hkp⟩ : ∃ kp, k = kp + 1 := ⟨k - 1, by omega⟩
          obtain ⟨a, ha⟩ : ∃ a, o[kp]? = some a := ⟨o[kp], List.getElem?_eq_getElem (by omega)⟩
          obtain ⟨sa1, sa2, sa3, sa4⟩ := unhide HSM a (List.mem_of_getElem? ha)
          have hyes : Hid (Hx.lim1 J o k = [⟨kp, k, (J : Int) + a.x.hi⟩]) := by
            show _ = _
            have e : k - 1 = kp := by omega
            simp [Hx.lim1, hk0, e, ha]
          have j0 : w1.cell? ⟨w.heap.size, 0, none⟩ = some (.int .i64 (J : Int)) := blk_cell (unhide HLM1).box 0
          have a1 : w1.cell? ⟨go, kp * 8 + 1, none⟩ = some (.int .i64 (a.x.hi : Int)) := unhide HOC w1 (unhide HLM1).be kp a ha 1 (by omega)
          have hne1 : some w.heap.size ≠ (Value.slice al l.length capl).ownBlock := fun e => own_not_box (unhide HLM1).row (unhide HLM1).box (by decide) e.symm
          have hne2 : some go ≠ (Value.slice al l.length capl).ownBlock := fun e => by have := ((unhide HLM1).row.lt go e.symm).1; omega
          have hkI : (0 : Int) < (k : Int) := by omega
          have hkp0 : (0 : Int) ≤ (kp : Int) := by omega
          have hkpI : (kp : Int) < (o.length : Int) := by omega
          have hkw : IntKind.i64.wrap ((k : Int) - 1) = (kp : Int) := by
            have : (k : Int) - 1 = (kp : Int) := by omega
            rw [this]
            exact IntWalk.i64_in _ ⟨by omega, by omega⟩
          have hsw : IntKind.i64.wrap ((J : Int) + (a.x.hi : Int)) = (J : Int) + (a.x.hi : Int) := IntWalk.i64_in _ ⟨by omega, by omega⟩
          have hsz : w.heap.size + 2 ≤ w1.heap.size := ((unhide HLM1).last.lt (w.heap.size + 1) rfl).2
          have hmx : l.length + 1 ≤ maxLen := by unfold maxLen; omega
          clear hkp ha hk0
          go_wp2_with fail
          go_region_held3 (fun w' => w'.cell? ⟨w.heap.size, 0, none⟩ = some (.int .i64 (J : Int)) ∧ w'.cell? ⟨go, kp * 8 + 1, none⟩ = some (.int .i64 (a.x.hi : Int)))
            (refine ⟨?_, ?_⟩ <;> (first | assumption | exact cD (by assumption) | exact cD (cA _ (by assumption))))
            ((refine step_append_own (by rfl) (.tmp 24) (.tmp 40) 176 (by rfl) (w.heap.size + 2) 191 i0 (.agg #[.int .i64 0, .int .i64 0, .int .i64 0]) 3 24 Tryd.underlying176 (unhide HI) (unhide HZ0) (unhide HZ1) (unhide HZ2) rfl (by decide) (.slice al l.length capl) l.length (limsCells l) (by simp [Act.eval]) ((unhide HLM1).row.alloc _).drew ⟨w1.heap.size, 0, none⟩ 1 1 (limCells ⟨kp, k, (J : Int) + a.x.hi⟩) (by simp [Act.eval]) rfl (fun j u hj => cD (news_new w1 (limCells ⟨kp, k, (J : Int) + a.x.hi⟩) 191 j u hj)) (limCells_one _) hmx (by omega) (by simp; omega) ?_; intro v' w2 hown' hgrow; have q1 := hgrow.cell (cD (cA _ j0)) hne1; have q2 := hgrow.cell (cD (cA _ a1)) hne2))
          all_goals
            have HAPP : Hid (LmI w w2 J K D (.slice (some ⟨g, 0, none⟩) ps.length cap) ps.length (Hx.lastIx o k) (l ++ Hx.lim1 J o k) v') := by
              rw [unhide hyes]
              exact ((unhide HLM1).below (belD (belA _ (Below.refl _ _)))).app (l' := [⟨kp, k, (J : Int) + a.x.hi⟩]) (by simpa [limsCells] using hown') hgrow
            have HTB2 : Hid (w2.heap[tb]? = some (.cells #[.int .i64 (t.x.lo : Int), .int .i64 (t.x.hi : Int), .bool t.x.rest, .int .i64 (t.x.mn : Int), .int .i64 (t.x.mx : Int), .int .i64 (t.pl : Int), .int .i64 (t.no : Int), .bool t.beg] 83 (0, 0))) := blk_kept (bD (bA _ (unhide HTB))) hgrow (fun e => own_not_box (unhide HLM1).row (unhide HTB) (by decide) e.symm)
            clear hown' hgrow
            go_wp2_with fail
            go_meet
            case rel =>
              refine ⟨_, rfl, ?_, ?_⟩
              · first
                  | exact unhide HAPP
                  | exact (unhide HAPP).below (belD (Below.refl _ _))
                  | exact (unhide HAPP).below (belD (belD (Below.refl _ _)))
              · exact unhide HTB2
        · have hno : Hid (Hx.lim1 J o k = []) := by show _ = _; simp [Hx.lim1, hk0]
          have hkI : decide ((0 : Int) < (k : Int)) = false := by simp; omega
          go_wp2_with fail
          go_meet
          case rel => exact ⟨_, rfl, by rw [unhide hno, List.append_nil]; exact unhide HLM1, unhide HTB⟩
      case rest =>
        clear HTB HLM1
        obtain ⟨lv, rfl, hlm, htb⟩ := hcut
        obtain ⟨L1, hL1⟩ : ∃ L1, L1 = l ++ Hx.lim1 J o k := ⟨_, rfl⟩
        rw [← hL1] at hlm
        have hL1l : L1.length ≤ 3 * k + 1 := by
          rw [hL1, List.length_append]
          have := Hx.lim1_len J o k
          omega
        have HUP : Hid ((List.range (k + 1)).flatMap (Hx.limAt J o) = L1 ++ Hx.lim2 J o k t) := by
          show _ = _
          rw [Hx.limsUp_succ (unhide HTK), ← unhide HLS, hL1]
        obtain ⟨al2, capl2, rfl⟩ := own_form hlm.row
        have HLM := hide hlm
        have HTB := hide htb
        clear hlm htb hL1
        have x2 : wc.cell? ⟨tb, 2, none⟩ = some (.bool t.x.rest) := blk_cell (unhide HTB) 2
        have x5 : wc.cell? ⟨tb, 5, none⟩ = some (.int .i64 (t.pl : Int)) := blk_cell (unhide HTB) 5
        have htpI : (t.pl : Int) < (ps.length : Int) := by omega
        have HST : Hid (∀ p, Hx.lastIx o (k + 1) p = if p = t.pl then k else Hx.lastIx o k p) := Hx.lastIx_step (unhide HTK)
        have HFN : Hid ((fun q => if q = t.pl then k else Hx.lastIx o k q) = Hx.lastIx o (k + 1)) := by
          show _ = _
          funext q
          exact (unhide HST q).symm
        cases hr : t.x.rest
        · have hl2 : Hid (Hx.lim2 J o k t = []) := by show _ = _; simp [Hx.lim2, hr]
          rw [hr] at x2
          have c1 : wc.cell? ⟨w.heap.size + 1, t.pl, none⟩ = some (.int .i64 (Hx.lastIx o k t.pl : Int)) := by rw [(unhide HLM).last.cellAt t.pl (by omega)]; exact natCells_at htp
          have cf : wc.frozen? ⟨w.heap.size + 1, t.pl, none⟩ = false := (unhide HLM).last.frozenAt t.pl
          clear hr
          go_wp2_with fail
          go_roundg (o.length - (k + 1))
          case measure => omega
          case rel =>
            refine ⟨k + 1, L1, by omega, rfl, by go_num, by rw [unhide HUP, unhide hl2, List.append_nil], ?_⟩
            have := (unhide HLM).put t.pl k
            rw [unhide HFN] at this
            exact this
        · obtain ⟨q, hq⟩ : ∃ q, q = Hx.lastIx o k t.pl := ⟨_, rfl⟩
          have hqk : q ≤ k := by rw [hq]; exact Hx.lastIx_le o t.pl k
          obtain ⟨a, ha⟩ : ∃ a, o[q]? = some a := ⟨o[q], List.getElem?_eq_getElem (by omega)⟩
          obtain ⟨sa1, sa2, sa3, sa4⟩ := unhide HSM a (List.mem_of_getElem? ha)
          have hl2 : Hid (Hx.lim2 J o k t = [⟨q, k, (J : Int) + a.x.hi + t.x.mn⟩, ⟨k, q, -((a.x.lo : Int) + t.x.mx - J)⟩]) := by
            show _ = _
            simp [Hx.lim2, hr, ← hq, ha]
          rw [hr] at x2
          have c1 : wc.cell? ⟨w.heap.size + 1, t.pl, none⟩ = some (.int .i64 (q : Int)) := by rw [(unhide HLM).last.cellAt t.pl (by omega), hq]; exact natCells_at htp
          have a0 : wc.cell? ⟨go, q * 8, none⟩ = some (.int .i64 (a.x.lo : Int)) := unhide HOC wc (unhide HLM).be q a ha 0 (by omega)
          have a1 : wc.cell? ⟨go, q * 8 + 1, none⟩ = some (.int .i64 (a.x.hi : Int)) := unhide HOC wc (unhide HLM).be q a ha 1 (by omega)
          have a2 : wc.cell? ⟨go, q * 8 + 2, none⟩ = some (.bool a.x.rest) := unhide HOC wc (unhide HLM).be q a ha 2 (by omega)
          have a3 : wc.cell? ⟨go, q * 8 + 3, none⟩ = some (.int .i64 (a.x.mn : Int)) := unhide HOC wc (unhide HLM).be q a ha 3 (by omega)
          have a4 : wc.cell? ⟨go, q * 8 + 4, none⟩ = some (.int .i64 (a.x.mx : Int)) := unhide HOC wc (unhide HLM).be q a ha 4 (by omega)
          have x3 : wc.cell? ⟨tb, 3, none⟩ = some (.int .i64 (t.x.mn : Int)) := blk_cell (unhide HTB) 3
          have x4 : wc.cell? ⟨tb, 4, none⟩ = some (.int .i64 (t.x.mx : Int)) := blk_cell (unhide HTB) 4
          have j0 : wc.cell? ⟨w.heap.size, 0, none⟩ = some (.int .i64 (J : Int)) := blk_cell (unhide HLM).box 0
          have hq0 : (0 : Int) ≤ (q : Int) := by omega
          have hqI : (q : Int) < (o.length : Int) := by omega
          have HQ := hide hq
          clear hr ha hq
          go_upto_region 10 with fail
          go_cut [10] (fun s10 wd => ∃ sb, s10 = .pointer (some ⟨sb, 0, none⟩) ∧ wd.heap[sb]? = some (.cells #[.int .i64 ((J : Int) + a.x.hi + t.x.mn), .int .i64 ((a.x.lo : Int) + t.x.mx - J)] 79 (0, 0)) ∧ Below wc.heap.size wc wd)
          case first =>
            go_region_held3 (fun w' => w'.cell? ⟨w.heap.size, 0, none⟩ = some (.int .i64 (J : Int)) ∧ w'.cell? ⟨go, q * 8, none⟩ = some (.int .i64 (a.x.lo : Int)) ∧ w'.cell? ⟨go, q * 8 + 1, none⟩ = some (.int .i64 (a.x.hi : Int)) ∧ w'.cell? ⟨go, q * 8 + 2, none⟩ = some (.bool a.x.rest) ∧ w'.cell? ⟨go, q * 8 + 3, none⟩ = some (.int .i64 (a.x.mn : Int)) ∧ w'.cell? ⟨go, q * 8 + 4, none⟩ = some (.int .i64 (a.x.mx : Int)) ∧ w'.cell? ⟨tb, 3, none⟩ = some (.int .i64 (t.x.mn : Int)) ∧ w'.cell? ⟨tb, 4, none⟩ = some (.int .i64 (t.x.mx : Int))) (refine ⟨?_, ?_, ?_, ?_, ?_, ?_, ?_, ?_⟩ <;> (repeat (first | assumption | apply cD | apply cA)))
              (first | (go_at_call 48; refine (apart_any J a.x t.x.mn t.x.mx _ (by omega) sa1 sa2 st3 st4).mono ?_; rintro e w2 ⟨rfl, rfl⟩))
            all_goals
              go_wp2_with fail
              go_meet
              case rel =>
                refine ⟨_, rfl, ?_, ?_⟩
                · repeat (first | (refine bN _ _ ?_; simp; done) | apply bD | apply bA)
                · repeat (first | exact Below.refl _ _ | apply belD | apply belA)
          case rest =>
            obtain ⟨sb, rfl, hsb, hb2⟩ := hcut
            have HLM2 := hide ((unhide HLM).below hb2)
            have HTB2 := hide ((hb2.block _ (lt_of_block (unhide HTB))).trans (unhide HTB))
            clear hb2 a0 a1 a2 a3 a4 x2 x3 x4 x5 j0 c1 HTB HLM
            have s0 : wc.cell? ⟨sb, 0, none⟩ = some (.int .i64 ((J : Int) + a.x.hi + t.x.mn)) := blk_cell hsb 0
            have s1 : wc.cell? ⟨sb, 1, none⟩ = some (.int .i64 ((a.x.lo : Int) + t.x.mx - J)) := blk_cell hsb 1
            have hsz : w.heap.size + 2 ≤ wc.heap.size := ((unhide HLM2).last.lt (w.heap.size + 1) rfl).2
            clear hsb
            go_upto_region 12 with (at_builtin; refine wpList_append_own _ rfl _ _ 176 rfl (w.heap.size + 2) 191 i0 (.agg #[.int .i64 0, .int .i64 0, .int .i64 0]) 3 24 Tryd.underlying176 (unhide HI) (unhide HZ0) (unhide HZ1) (unhide HZ2) rfl (by decide) _ _ _ rfl ((unhide HLM2).row.alloc _) ⟨wc.heap.size, 0, none⟩ 2 2 (limsCells [⟨q, k, (J : Int) + a.x.hi + t.x.mn⟩, ⟨k, q, -((a.x.lo : Int) + t.x.mx - J)⟩]) rfl rfl ?d1 ?d2 ?d3 ?d4 ?d5 ?_)
            case d1 => exact news_new wc (limsCells [⟨q, k, (J : Int) + a.x.hi + t.x.mn⟩, ⟨k, q, -((a.x.lo : Int) + t.x.mx - J)⟩]) 191
            case d2 => exact limsCells_one _
            case d3 => unfold maxLen; omega
            case d4 => omega
            case d5 => simp; omega
            · intro v' w3 hown' hgrow _
              have HLM3 := hide (((unhide HLM2).below (belA _ (Below.refl _ _))).app (l' := [⟨q, k, (J : Int) + a.x.hi + t.x.mn⟩, ⟨k, q, -((a.x.lo : Int) + t.x.mx - J)⟩]) hown' hgrow)
              have HTB3 := hide (blk_kept (bA _ (unhide HTB2)) hgrow (fun e => own_not_box (unhide HLM2).row (unhide HTB2) (by decide) e.symm))
              clear hown' hgrow s0 s1
              have x5 : w3.cell? ⟨tb, 5, none⟩ = some (.int .i64 (t.pl : Int)) := blk_cell (unhide HTB3) 5
              have c1 : w3.cell? ⟨w.heap.size + 1, t.pl, none⟩ = some (.int .i64 (Hx.lastIx o k t.pl : Int)) := by rw [(unhide HLM3).last.cellAt t.pl (by omega)]; exact natCells_at htp
              have cf : w3.frozen? ⟨w.heap.size + 1, t.pl, none⟩ = false := (unhide HLM3).last.frozenAt t.pl
              go_wp2_with fail
              go_roundg (o.length - (k + 1))
              case measure => omega
              case rel =>
                refine ⟨k + 1, _, by omega, rfl, by go_num, (unhide HUP).symm, ?_⟩
                rw [unhide hl2]
                have := (unhide HLM3).put t.pl k
                rw [unhide HFN] at this
                exact this
    · have hke : k = o.length := by omega
      have hfin : Hid (Hx.limsOf J o = l) := by show _ = _; rw [Hx.limsOf, unhide HLS, hke]
      clear hke
      have hkI : decide ((k : Int) < (o.length : Int)) = false := by simp; omega
      go_wp2_with fail
      go_returns
      exact ⟨_, rfl, by rw [unhide hfin]; exact own_mono (unhide HLM).row (by omega), (unhide HLM).be⟩

end Go.Proofs.YtppcnlkhdgmaiaaDoor
namespace Go.Proofs.YtppcnlkhdgmaiaaDoor
open Go.RowKit

namespace Hx
theorem limsOf_mem {J : Nat} {o : List Trn} {l : Lim} (h : l ∈ limsOf J o) : ∃ i t, o[i]? = some t ∧ (l ∈ lim1 J o i ∨ l ∈ lim2 J o i t) := by
  obtain ⟨i, hi, hl⟩ := List.mem_flatMap.1 h
  have hi' : i < o.length := by simpa using hi
  refine ⟨i, o[i], List.getElem?_eq_getElem hi', ?_⟩
  unfold limAt at hl
  rw [List.getElem?_eq_getElem hi'] at hl
  exact List.mem_append.1 hl
theorem limsOf_in (J : Nat) (o : List Trn) : InL o.length (limsOf J o) := by
  intro l hl
  obtain ⟨i, t, ht, h | h⟩ := limsOf_mem hl
  · have hi := getElem?_lt ht
    unfold lim1 at h
    split at h
    · split at h
      · simp at h; subst h; simp; omega
      · cases h
    · cases h
  · have hi := getElem?_lt ht
    unfold lim2 at h
    split at h
    · split at h
      · rename_i a ha
        have := getElem?_lt ha
        simp at h
        rcases h with rfl | rfl
        · simp; omega
        · simp; omega
      · cases h
    · cases h
theorem limsOf_more {J : Nat} {o : List Trn} (hJ : J < 10) (hsm : ∀ t ∈ o, t.x.lo < 1000 ∧ t.x.hi < 1000 ∧ t.x.mn < 1000 ∧ t.x.mx < 1000) : ∀ l ∈ limsOf J o, -4000 ≤ l.more ∧ l.more ≤ 4000 := by
  intro l hl
  obtain ⟨i, t, ht, h | h⟩ := limsOf_mem hl
  · unfold lim1 at h
    split at h
    · split at h
      · rename_i a ha
        obtain ⟨s1, s2, s3, s4⟩ := hsm a (List.mem_of_getElem? ha)
        simp at h; subst h
        constructor <;> (simp only; omega)
      · cases h
    · cases h
  · obtain ⟨q1, q2, q3, q4⟩ := hsm t (List.mem_of_getElem? ht)
    unfold lim2 at h
    split at h
    · split at h
      · rename_i a ha
        obtain ⟨s1, s2, s3, s4⟩ := hsm a (List.mem_of_getElem? ha)
        simp at h
        rcases h with rfl | rfl
        · constructor <;> (simp only; omega)
        · constructor <;> (simp only; omega)
      · cases h
    · cases h
theorem limsOf_len (J : Nat) (o : List Trn) : (limsOf J o).length ≤ 3 * o.length := limsUp_len J o _
/-- The earliest times of an order, by its places. -/
def earlyF (J : Nat) (o : List Trn) : Option (Nat → Int) := roundsF (limsOf J o) o.length (fun _ => 0)
end Hx

theorem intCells_made (n : Nat) : (madeCells (Value.int .i64 0).cells (n * 1)).toList = intCells n (fun _ => 0) := by
  show (madeCells #[Value.int .i64 0] (n * 1)).toList = _
  rw [toList_madeCells_one, Nat.mul_one]
  apply List.ext_getElem?
  intro i
  by_cases hi : i < n
  · rw [intCells_at hi]; simp [hi]
  · rw [List.getElem?_eq_none (by simp; omega), List.getElem?_eq_none (by simp [intCells]; omega)]

/-- What earliestTimes answers. -/
def EarlyRes (J : Nat) (o : List Hx.Trn) (w : World) (e : Ending) (w' : World) : Prop :=
  Below w.heap.size w w' ∧
    ((Hx.earlyF J o = none ∧ e = .returned (.tuple #[.slice none 0 0, .bool false])) ∨
     (∃ f gt, Hx.earlyF J o = some f ∧ (∀ i, i < o.length → 0 ≤ f i ∧ f i ≤ 200000000) ∧ e = .returned (.tuple #[.slice (some ⟨gt, 0, none⟩) o.length o.length, .bool true]) ∧ w'.ownsRow w.heap.size 3 1 (.slice (some ⟨gt, 0, none⟩) o.length o.length) o.length (intCells o.length f)))

set_option maxRecDepth 100000 in
set_option maxHeartbeats 8000000 in
theorem early_any (J K D : Nat) (v ov : Value) (base : Nat) (ps : List (List Hx.Stp)) (o : List Hx.Trn) (w : World) (hps : Plts w base v ps) (hn : 0 < ps.length) (hl : ps.length ≤ 121) (ho : Trns w 0 ov o) (hol : o.length ≤ 100)
    (hpl : ∀ t ∈ o, t.pl < ps.length) (hsm : ∀ t ∈ o, t.x.lo < 1000 ∧ t.x.hi < 1000 ∧ t.x.mn < 1000 ∧ t.x.mx < 1000) (hJ : J < 10) :
    Calls Tryd.prog 73 #[.agg #[.int .i64 (J : Int), .int .i64 (K : Int), .int .i64 (D : Int), v], ov] w (EarlyRes J o w) := by
  have HIN := hide (Hx.limsOf_in J o)
  have HMO := hide (Hx.limsOf_more hJ hsm)
  have HLN := hide (Hx.limsOf_len J o)
  have HPL := hide hpl
  have HSM := hide hsm
  have HPS0 := hide hps
  have HO0 := hide ho
  obtain ⟨g, cap, rfl, hg⟩ : ∃ g cap, v = .slice (some ⟨g, 0, none⟩) ps.length cap ∧ g < w.heap.size := by
    obtain ⟨vs, hvs, hpp⟩ := hps
    obtain ⟨g, cap, e, _, hg⟩ := own_pos hvs hn
    exact ⟨g, cap, e, hg⟩
  obtain ⟨ao, capo, rfl⟩ := own_form ho
  obtain ⟨i3, hi3, hz30, hz31, hz32⟩ := info_parts Tryd.info3
  have HI3 := hide hi3
  have HZ30 := hide hz30
  have HZ31 := hide hz31
  have HZ32 := hide hz32
  have HB0 := hide (belA (.cells #[.int .i64 (J : Int), .int .i64 (K : Int), .int .i64 (D : Int), .slice (some ⟨g, 0, none⟩) ps.length cap] 75) (Below.refl w.heap.size w))
  have HPS := hide ((unhide HPS0).below (unhide HB0))
  have HO := hide (own_below (unhide HO0) (unhide HB0))
  clear hps ho hpl hsm hi3 hz30 hz31 hz32 HPS0 HO0
  go_enter Tryd.func73, Tryd.ntmps73
  go_wp2_with fail
  generalize w.alloc (.cells #[.int .i64 (J : Int), .int .i64 (K : Int), .int .i64 (D : Int), .slice (some ⟨g, 0, none⟩) ps.length cap] 75) = w0 at *
  refine (limits_any J K D _ _ base ps o _ (unhide HPS) hn hl (unhide HO) hol (unhide HPL) (unhide HSM) hJ).mono ?_
  rintro e w1 ⟨lv, rfl, hrow, hb1⟩
  obtain ⟨ls, hls⟩ : ∃ ls, ls = Hx.limsOf J o := ⟨_, rfl⟩
  rw [← hls] at hrow HIN HMO HLN
  have HLS := hide hls
  have HB1 := hide ((unhide HB0).trans (hb1.mono (unhide HB0).size))
  have HROW : Hid (w1.ownsRow w.heap.size 191 3 lv ls.length (limsCells ls)) := own_mono hrow (unhide HB0).size
  obtain ⟨al, capl, rfl⟩ := own_form hrow
  clear hls hrow hb1
  go_wp2_with (at_make; refine wpList_make_full _ rfl _ _ 49 rfl w.heap.size 3 i3 (.int .i64 0) 1 Tryd.underlying49 (unhide HI3) (unhide HZ30) (unhide HZ31) _ _ _ _ o.length rfl rfl (by simp) (by simp) (by rw [unhide HZ32]; omega) (by unfold maxLen; omega) (unhide HB1).size ?_; intro w2 hown2 hgrow2)
  rw [intCells_made] at hown2
  have HT2 := hide hown2
  have HB2 := hide ((unhide HB1).grown hgrow2 (unhide HB1).size (fun k e => by cases e))
  have HROW2 : Hid (w2.ownsRow w.heap.size 191 3 (.slice al ls.length capl) ls.length (limsCells ls)) := (unhide HROW).kept hgrow2 (by
    cases hv : (Value.slice al ls.length capl).ownBlock
    · exact Or.inl rfl
    · exact Or.inr (by simp))
  clear hown2 hgrow2 HROW
  obtain ⟨gt, hgt⟩ : ∃ gt, gt = w1.heap.size := ⟨_, rfl⟩
  have hgtw : w.heap.size ≤ gt := by rw [hgt]; exact (unhide HB1).size
  rw [← hgt] at HT2 ⊢
  clear hgt
  have hlsl := unhide HLN
  go_loopg [16] o.length (fun gk i wr => ∃ (k : Nat) (f : Nat → Int), k ≤ o.length ∧ gk = o.length - k ∧ i = .int .i64 (k : Int) ∧ Hx.roundsF ls (o.length - k) f = Hx.roundsF ls o.length (fun _ => 0) ∧ (∀ i, i < o.length → 0 ≤ f i ∧ f i ≤ (4000 * ls.length * k : Nat)) ∧ wr.ownsRow w.heap.size 3 1 (.slice (some ⟨gt, 0, none⟩) o.length o.length) o.length (intCells o.length f) ∧ wr.ownsRow w.heap.size 191 3 (.slice al ls.length capl) ls.length (limsCells ls) ∧ Below w.heap.size w wr)
  case atStart => exact ⟨0, fun _ => 0, Nat.zero_le _, rfl, rfl, rfl, by simp, unhide HT2, unhide HROW2, unhide HB2⟩
  case round =>
    clear HT2 HROW2 HB2
    obtain ⟨k, f, hk, rfl, rfl, hfin, hbd, hrow, hlr, hbe⟩ := hrel
    have HFIN := hide hfin
    have HBD := hide hbd
    have HROW := hide hrow
    have HLR := hide hlr
    have HBE := hide hbe
    clear hfin hbd hrow hlr hbe
    by_cases hlt : k < o.length
    · have hbig : 4000 * ls.length * k ≤ 120000000 := by
        have h1 : 4000 * ls.length ≤ 1200000 := by omega
        calc 4000 * ls.length * k ≤ 1200000 * 100 := Nat.mul_le_mul h1 (by omega)
          _ = 120000000 := by decide
      obtain ⟨B, hB⟩ : ∃ B : Nat, B = 4000 * ls.length * k := ⟨_, rfl⟩
      have hBk : 4000 * ls.length * (k + 1) = B + 4000 * ls.length := by rw [hB, Nat.mul_add, Nat.mul_one]
      rw [← hB] at HBD hbig
      have HBK := hide hBk
      clear hB hBk
      go_wp2_with fail
      refine (raise_any w.heap.size gt o.length o.length _ ls f (B : Int) _ (unhide HROW) (own_mono (unhide HLR) (Nat.zero_le _)) (unhide HIN) (unhide HMO) (unhide HBD) ⟨by omega, by omega⟩ (by omega)).mono ?_
      rintro e w3 ⟨rfl, hrow3, hg3, hbd3⟩
      have HLR3 := hide ((unhide HLR).kept hg3 (own_apart (unhide HLR) (unhide HROW) (by decide)))
      have HBE3 := hide ((unhide HBE).grown hg3 (unhide HBE).size (fun j e => by cases e; exact hgtw))
      have HROW3 := hide hrow3
      have HBD3 := hide hbd3
      clear hrow3 hg3 hbd3
      have hsub : Hid (o.length - k = (o.length - (k + 1)) + 1) := by show _ = _; omega
      cases hr : (Hx.raiseF ls f false).2
      · have hfin : Hid (Hx.earlyF J o = some (Hx.raiseF ls f false).1) := by
          show _ = _
          rw [Hx.earlyF, ← unhide HLS, ← unhide HFIN, unhide hsub, Hx.roundsF, hr]; rfl
        clear hr
        go_wp2_with fail
        go_returns
        refine ⟨unhide HBE3, Or.inr ⟨_, gt, unhide hfin, fun i hi => ?_, rfl, unhide HROW3⟩⟩
        have := unhide HBD3 i hi
        constructor <;> omega
      · have hnew : Hid (Hx.roundsF ls (o.length - (k + 1)) (Hx.raiseF ls f false).1 = Hx.roundsF ls o.length (fun _ => 0)) := by
          show _ = _
          rw [← unhide HFIN, unhide hsub, Hx.roundsF, hr]; rfl
        clear hr
        go_wp2_with fail
        go_roundg (o.length - (k + 1))
        case measure => omega
        case rel =>
          refine ⟨k + 1, _, by omega, rfl, by go_num, unhide hnew, fun i hi => ?_, unhide HROW3, unhide HLR3, unhide HBE3⟩
          rw [unhide HBK]
          have := unhide HBD3 i hi
          constructor <;> omega
    · have hke : k = o.length := by omega
      have hfin : Hid (Hx.earlyF J o = none) := by
        show _ = _
        rw [Hx.earlyF, ← unhide HLS, ← unhide HFIN, hke, Nat.sub_self]; rfl
      clear hke
      have hkI : decide ((k : Int) < (o.length : Int)) = false := by simp; omega
      go_wp2_with fail
      go_returns
      exact ⟨unhide HBE, Or.inl ⟨unhide hfin, rfl⟩⟩

end Go.Proofs.YtppcnlkhdgmaiaaDoor
namespace Go.Proofs.YtppcnlkhdgmaiaaDoor
open Go.RowKit

/-- When an order with times is surely over. -/
def Hx.endT (J : Nat) (o : List Hx.Trn) (f : Nat → Int) : Int := match o[o.length - 1]? with | some t => f (o.length - 1) + J + t.x.hi | none => 0

/-- What timetableOf answers. -/
def TtRes (J D : Nat) (o : List Hx.Trn) (ov : Value) (w : World) (e : Ending) (w' : World) : Prop :=
  Below w.heap.size w w' ∧
    ((Hx.earlyF J o = none ∧ e = .returned (.tuple #[.agg #[.slice none 0 0, .slice none 0 0, .int .i64 0], .bool false])) ∨
     (∃ f gt, Hx.earlyF J o = some f ∧ (∀ i, i < o.length → 0 ≤ f i ∧ f i ≤ 200000000) ∧ e = .returned (.tuple #[.agg #[ov, .slice (some ⟨gt, 0, none⟩) o.length o.length, .int .i64 (Hx.endT J o f)], .bool (decide (Hx.endT J o f ≤ (D : Int)))]) ∧
       w'.ownsRow w.heap.size 3 1 (.slice (some ⟨gt, 0, none⟩) o.length o.length) o.length (intCells o.length f)))

theorem three_set {b : Nat} {T : TypeId} (w : World) (x0 x1 x2 y0 y1 y2 : Value) (h : w.heap[b]? = some (.cells #[x0, x1, x2] T (0, 0))) :
    (((w.setCell ⟨b, 0, none⟩ y0).setCell ⟨b, 1, none⟩ y1).setCell ⟨b, 2, none⟩ y2).heap[b]? = some (.cells #[y0, y1, y2] T (0, 0)) :=
  blk_set (blk_set (blk_set h 0 y0) 1 y1) 2 y2
theorem own_set {w : World} {base : Nat} {e T : TypeId} {size n b : Nat} {v : Value} {xs : List Value} {a : Array Value} {fr : Nat × Nat} (h : w.ownsRow base e size v n xs) (hb : w.heap[b]? = some (.cells a T fr)) (hne : e ≠ T) (o : Nat) (u : Value) : (w.setCell ⟨b, o, none⟩ u).ownsRow base e size v n xs :=
  h.kept (grown_set w b o u) (by
    by_cases hv : v.ownBlock = some b
    · exact absurd hv (own_not_box h hb hne)
    · cases ho : v.ownBlock
      · exact Or.inl rfl
      · exact Or.inr (by rw [ho] at hv; exact hv))

set_option maxRecDepth 100000 in
set_option maxHeartbeats 8000000 in
theorem ttable_any (J K D : Nat) (v ov : Value) (base : Nat) (ps : List (List Hx.Stp)) (o : List Hx.Trn) (w : World) (hps : Plts w base v ps) (hn : 0 < ps.length) (hl : ps.length ≤ 121) (ho : Trns w 0 ov o) (hol : o.length ≤ 100) (hop : 0 < o.length)
    (hpl : ∀ t ∈ o, t.pl < ps.length) (hsm : ∀ t ∈ o, t.x.lo < 1000 ∧ t.x.hi < 1000 ∧ t.x.mn < 1000 ∧ t.x.mx < 1000) (hJ : J < 10) :
    Calls Tryd.prog 51 #[.agg #[.int .i64 (J : Int), .int .i64 (K : Int), .int .i64 (D : Int), v], ov] w (TtRes J D o ov w) := by
  have HPL := hide hpl
  have HSM := hide hsm
  have HPS0 := hide hps
  have HO0 := hide ho
  obtain ⟨g, cap, rfl, hg⟩ : ∃ g cap, v = .slice (some ⟨g, 0, none⟩) ps.length cap ∧ g < w.heap.size := by
    obtain ⟨vs, hvs, hpp⟩ := hps
    obtain ⟨g, cap, e, _, hg⟩ := own_pos hvs hn
    exact ⟨g, cap, e, hg⟩
  obtain ⟨go, capo, rfl, _, hgo⟩ := own_pos ho hop
  have HB0 := hide (belA (.cells #[.slice none 0 0, .slice none 0 0, .int .i64 0] 89) (belA (.cells #[.int .i64 (J : Int), .int .i64 (K : Int), .int .i64 (D : Int), .slice (some ⟨g, 0, none⟩) ps.length cap] 75) (Below.refl w.heap.size w)))
  have HBX0 := hide (bA (.cells #[.slice none 0 0, .slice none 0 0, .int .i64 0] 89) (blk_new w #[.int .i64 (J : Int), .int .i64 (K : Int), .int .i64 (D : Int), .slice (some ⟨g, 0, none⟩) ps.length cap] 75))
  have HR0 : Hid (((w.alloc (.cells #[.int .i64 (J : Int), .int .i64 (K : Int), .int .i64 (D : Int), .slice (some ⟨g, 0, none⟩) ps.length cap] 75)).alloc (.cells #[.slice none 0 0, .slice none 0 0, .int .i64 0] 89)).heap[w.heap.size + 1]? = some (.cells #[.slice none 0 0, .slice none 0 0, .int .i64 0] 89 (0, 0))) := bN _ _ (by simp)
  have HPS := hide ((unhide HPS0).below (unhide HB0))
  have HO := hide (own_below (unhide HO0) (unhide HB0))
  clear hps ho hpl hsm HPS0
  go_enter Tryd.func51, Tryd.ntmps51
  go_wp2_with fail
  generalize (w.alloc (.cells #[.int .i64 (J : Int), .int .i64 (K : Int), .int .i64 (D : Int), .slice (some ⟨g, 0, none⟩) ps.length cap] 75)).alloc (.cells #[.slice none 0 0, .slice none 0 0, .int .i64 0] 89) = w0 at *
  refine (early_any J K D _ _ base ps o _ (unhide HPS) hn hl (unhide HO) hol (unhide HPL) (unhide HSM) hJ).mono ?_
  rintro e w1 ⟨hb1, h1⟩
  have HB1 := hide ((unhide HB0).trans (hb1.mono (unhide HB0).size))
  have HBX1 := hide ((hb1.block _ (lt_of_block (unhide HBX0))).trans (unhide HBX0))
  have HR1 := hide ((hb1.block _ (lt_of_block (unhide HR0))).trans (unhide HR0))
  have e0 : w1.cell? ⟨w.heap.size + 1, 0, none⟩ = some (.slice none 0 0) := blk_cell (unhide HR1) 0
  have e1 : w1.cell? ⟨w.heap.size + 1, 1, none⟩ = some (.slice none 0 0) := blk_cell (unhide HR1) 1
  have e2 : w1.cell? ⟨w.heap.size + 1, 2, none⟩ = some (.int .i64 0) := blk_cell (unhide HR1) 2
  have ef := blk_free (unhide HR1)
  have hle : w.heap.size ≤ w.heap.size + 1 := by omega
  have hszw := (unhide HB0).size
  clear hb1
  rcases h1 with ⟨hno, rfl⟩ | ⟨f, gt, hyes, hbd, rfl, hrow⟩
  · have HNO := hide hno
    clear hno
    go_wp2_with fail
    refine bodyPost_ret (v := .tuple #[.agg #[.slice none 0 0, .slice none 0 0, .int .i64 0], .bool false]) (by simp [results, Tryd.results51, go_sem, e0, e1, e2]) rfl ?_
    exact ⟨((((unhide HB1).setCell hle _).setCell hle _).setCell hle _), Or.inl ⟨unhide HNO, rfl⟩⟩
  · obtain ⟨last, hlast⟩ : ∃ last, o.length = last + 1 := ⟨o.length - 1, by omega⟩
    obtain ⟨t, ht⟩ : ∃ t, o[last]? = some t := ⟨o[last], List.getElem?_eq_getElem (by omega)⟩
    obtain ⟨q1, q2, q3, q4⟩ := unhide HSM t (List.mem_of_getElem? ht)
    obtain ⟨b1, b2⟩ := hbd last (by omega)
    obtain ⟨fl, hfl⟩ : ∃ fl, fl = f last := ⟨_, rfl⟩
    rw [← hfl] at b1 b2
    have hend : Hid (Hx.endT J o f = fl + J + t.x.hi) := by
      show _ = _
      have e : o.length - 1 = last := by omega
      simp [Hx.endT, e, ht, hfl]
    have x1 : w1.cell? ⟨go, last * 8 + 1, none⟩ = some (.int .i64 (t.x.hi : Int)) := by
      rw [(unhide HB1).cell (p := ⟨go, last * 8 + 1, none⟩) hgo, (unhide HO0).cellAt (last * 8 + 1) (by omega)]
      exact trnsCells_at o last t ht 1 (by omega)
    have y1 : w1.cell? ⟨gt, last, none⟩ = some (.int .i64 fl) := by rw [hrow.cellAt last (by omega), hfl]; exact intCells_at (by omega)
    have j0 : w1.cell? ⟨w.heap.size, 0, none⟩ = some (.int .i64 (J : Int)) := blk_cell (unhide HBX1) 0
    have j2 : w1.cell? ⟨w.heap.size, 2, none⟩ = some (.int .i64 (D : Int)) := blk_cell (unhide HBX1) 2
    have HYES := hide hyes
    have HBD := hide hbd
    have HROW := hide hrow
    have hl0 : (0 : Int) ≤ (last : Int) := by omega
    have hlI : (last : Int) < (o.length : Int) := by omega
    have hlw : (o.length : Int) - 1 = (last : Int) := by omega
    have HLAST := hide hlast
    clear hyes hbd hrow ht hfl hlast
    go_wp2_with fail
    go_quiet (fail)
    go_wp2_with fail
    go_region
    all_goals
      go_wp2_with fail
      refine bodyPost_ret (v := .tuple #[.agg #[.slice (some ⟨go, 0, none⟩) o.length capo, .slice (some ⟨gt, 0, none⟩) o.length o.length, .int .i64 (fl + J + t.x.hi)], .bool (decide (fl + J + t.x.hi ≤ (D : Int)))]) (by simp [results, Tryd.results51, go_sem, e0, e1, e2]) rfl ?_
      refine ⟨?_, Or.inr ⟨f, gt, unhide HYES, unhide HBD, by rw [unhide hend], ?_⟩⟩
      · exact ((((below_drewN (unhide HB1) _).setCell hle _).setCell hle _).setCell hle _)
      · have hR : (w1.drewN (nq + 1)).heap[w.heap.size + 1]? = some (.cells #[.slice none 0 0, .slice none 0 0, .int .i64 0] 89 (0, 0)) := unhide HR1
        have r1 : (w1.drewN (nq + 1)).ownsRow w.heap.size 3 1 (.slice (some ⟨gt, 0, none⟩) o.length o.length) o.length (intCells o.length f) := own_mono (unhide HROW) hszw
        exact own_set (own_set (own_set r1 hR (by decide) 0 _) (blk_set hR 0 _) (by decide) 1 _) (blk_set (blk_set hR 0 _) 1 _) (by decide) 2 _

end Go.Proofs.YtppcnlkhdgmaiaaDoor
namespace Go.Proofs.YtppcnlkhdgmaiaaDoor
open Go.RowKit

/-- The blocks of the iterator's variables: the protocol, done, resting, made, untried, goOn; and done's row. -/
structure Bk where
  p : Nat
  d : Nat
  r : Nat
  m : Nat
  u : Nat
  g : Nat
  gd : Nat
/-- What does not change. -/
structure Cx where
  J : Nat
  K : Nat
  D : Nat
  v : Value
  ps : List (List Hx.Stp)
  b : Bk
def Cx.ptrs (c : Cx) : Array Value := #[.pointer (some ⟨c.b.p, 0, none⟩), .pointer (some ⟨c.b.d, 0, none⟩), .pointer (some ⟨c.b.r, 0, none⟩), .pointer (some ⟨c.b.m, 0, none⟩), .pointer (some ⟨c.b.u, 0, none⟩), .pointer (some ⟨c.b.g, 0, none⟩)]

/-- The iterator's state: the steps so far, the rests under way, what is done of each plate, the turns not yet tried; P: what is the caller's. -/
structure It (w : World) (c : Cx) (W : World) (ts : List Hx.Trn) (r : Int) (nx : Nat → Nat) (u : Nat) (mv : Value) (P : Nat → Prop) : Prop where
  be : Below w.heap.size w W
  cp : W.heap[c.b.p]? = some (.cells #[.int .i64 (c.J : Int), .int .i64 (c.K : Int), .int .i64 (c.D : Int), c.v] 75 (0, 0))
  cd : W.heap[c.b.d]? = some (.cells #[.slice (some ⟨c.b.gd, 0, none⟩) c.ps.length c.ps.length] 49 (0, 0))
  rd : W.ownsRow 0 3 1 (.slice (some ⟨c.b.gd, 0, none⟩) c.ps.length c.ps.length) c.ps.length (natCells c.ps.length nx)
  cr : W.heap[c.b.r]? = some (.cells #[.int .i64 r] 3 (0, 0))
  cm : W.heap[c.b.m]? = some (.cells #[mv] 87 (0, 0))
  rm : Trns W 0 mv ts
  cu : W.heap[c.b.u]? = some (.cells #[.int .i64 (u : Int)] 3 (0, 0))
  cg : W.heap[c.b.g]? = some (.cells #[.func (.func 68) #[] c.ptrs] 159 (0, 0))
  lo : w.heap.size ≤ c.b.r ∧ w.heap.size ≤ c.b.m ∧ w.heap.size ≤ c.b.u ∧ w.heap.size ≤ c.b.gd ∧ ∀ x, mv.ownBlock = some x → w.heap.size ≤ x
  ne : c.b.r ≠ c.b.u ∧ c.b.gd ≠ c.b.r ∧ c.b.gd ≠ c.b.u
  sep : ∀ x, P x → w.heap.size ≤ x ∧ x < W.heap.size ∧ x ≠ c.b.p ∧ x ≠ c.b.d ∧ x ≠ c.b.r ∧ x ≠ c.b.m ∧ x ≠ c.b.u ∧ x ≠ c.b.g ∧ x ≠ c.b.gd ∧ mv.ownBlock ≠ some x

/-- What a step of the iterator leaves alone. -/
structure Frm (c : Cx) (W : World) (P : Nat → Prop) (mv : Value) (W' : World) (P' : Nat → Prop) (mv' : Value) : Prop where
  size : W.heap.size ≤ W'.heap.size
  keep : ∀ x, x < W.heap.size → ¬ P x → x ≠ c.b.r → x ≠ c.b.m → x ≠ c.b.u → x ≠ c.b.gd → mv.ownBlock ≠ some x → W'.heap[x]? = W.heap[x]?
  pn : ∀ x, P' x → P x ∨ W.heap.size ≤ x
  mn : ∀ x, mv'.ownBlock = some x → mv.ownBlock = some x ∨ W.heap.size ≤ x
theorem Frm.refl (c : Cx) (W : World) (P : Nat → Prop) (mv : Value) : Frm c W P mv W P mv := ⟨Nat.le_refl _, fun _ _ _ _ _ _ _ _ => rfl, fun _ h => Or.inl h, fun _ h => Or.inl h⟩
theorem Frm.trans {c : Cx} {W W1 W2 : World} {P P1 P2 : Nat → Prop} {mv mv1 mv2 : Value} (h : Frm c W P mv W1 P1 mv1) (g : Frm c W1 P1 mv1 W2 P2 mv2) : Frm c W P mv W2 P2 mv2 := by
  refine ⟨Nat.le_trans h.size g.size, fun x hx hp h1 h2 h3 h4 h5 => ?_, fun x hx => ?_, fun x hx => ?_⟩
  · refine (g.keep x (Nat.lt_of_lt_of_le hx h.size) (fun hp1 => ?_) h1 h2 h3 h4 (fun e => ?_)).trans (h.keep x hx hp h1 h2 h3 h4 h5)
    · rcases h.pn x hp1 with e | e
      · exact hp e
      · omega
    · rcases h.mn x e with e2 | e2
      · exact h5 e2
      · omega
  · rcases g.pn x hx with e | e
    · exact h.pn x e
    · exact Or.inr (Nat.le_trans h.size e)
  · rcases g.mn x hx with e | e
    · exact h.mn x e
    · exact Or.inr (Nat.le_trans h.size e)
/-- New blocks, nothing else. -/
theorem Frm.below {c : Cx} {W W' : World} (P : Nat → Prop) (mv : Value) (hb : Below W.heap.size W W') : Frm c W P mv W' P mv :=
  ⟨hb.size, fun x hx _ _ _ _ _ _ => hb.block x hx, fun _ h => Or.inl h, fun _ h => Or.inl h⟩
/-- A store into one of the iterator's own variables. -/
theorem Frm.put {c : Cx} {W : World} (P : Nat → Prop) (mv : Value) (b o : Nat) (u : Value) (hb : b = c.b.r ∨ b = c.b.m ∨ b = c.b.u ∨ b = c.b.gd) : Frm c W P mv (W.setCell ⟨b, o, none⟩ u) P mv :=
  ⟨by have := (grown_set W b o u).size; exact this, fun x hx _ h1 h2 h3 h4 _ => (grown_set W b o u).block x hx (by rcases hb with rfl | rfl | rfl | rfl <;> simp_all), fun _ h => Or.inl h, fun _ h => Or.inl h⟩

variable {w W W' : World} {c : Cx} {ts : List Hx.Trn} {r : Int} {nx : Nat → Nat} {u : Nat} {mv : Value} {P : Nat → Prop}

theorem It.below (h : It w c W ts r nx u mv P) (hb : Below W.heap.size W W') : It w c W' ts r nx u mv P := by
  have kb : ∀ {x : Nat} {o : Obj}, W.heap[x]? = some o → W'.heap[x]? = some o := fun hx => (hb.block _ (lt_of_block hx)).trans hx
  exact ⟨h.be.trans (hb.mono h.be.size), kb h.cp, kb h.cd, own_below h.rd hb, kb h.cr, kb h.cm, own_below h.rm hb, kb h.cu, kb h.cg, h.lo, h.ne, fun x hx => by
    obtain ⟨a1, a2, a3⟩ := h.sep x hx
    exact ⟨a1, Nat.lt_of_lt_of_le a2 hb.size, a3⟩⟩
theorem blk_ty {W : World} {a b : Nat} {x y : Array Value} {s t : TypeId} {f g : Nat × Nat} (h1 : W.heap[a]? = some (.cells x s f)) (h2 : W.heap[b]? = some (.cells y t g)) (hne : s ≠ t) : a ≠ b := by
  intro e
  subst e
  rw [h1] at h2
  simp at h2
  exact hne h2.2.1
theorem row_ty {W : World} {base b n size : Nat} {e t : TypeId} {v : Value} {xs : List Value} {y : Array Value} {g : Nat × Nat} (h : W.ownsRow base e size v n xs) (h2 : W.heap[b]? = some (.cells y t g)) (hne : e ≠ t) : ∀ x, v.ownBlock = some x → x ≠ b := by
  intro x hx e'
  subst e'
  exact own_not_box h h2 hne hx
theorem own_other {W : World} {base n size b o : Nat} {e : TypeId} {v : Value} {xs : List Value} (h : W.ownsRow base e size v n xs) (hne : v.ownBlock ≠ some b) (y : Value) : (W.setCell ⟨b, o, none⟩ y).ownsRow base e size v n xs :=
  h.kept (grown_set W b o y) (by
    cases ho : v.ownBlock
    · exact Or.inl rfl
    · exact Or.inr (by rw [← ho]; exact hne))
theorem It.gdlt (h : It w c W ts r nx u mv P) : ∃ cur, W.heap[c.b.gd]? = some (.cells cur 3 (0, 0)) := by
  rcases h.rd.2 with ⟨e, _⟩ | ⟨g, cap, cur, e, _, h4, _⟩
  · cases e
  · cases e; exact ⟨cur, h4⟩
theorem It.setU (h : It w c W ts r nx u mv P) (u' : Nat) : It w c (W.setCell ⟨c.b.u, 0, none⟩ (.int .i64 (u' : Int))) ts r nx u' mv P := by
  have hg := grown_set W c.b.u 0 (.int .i64 (u' : Int))
  have kb : ∀ {x : Nat} {o : Obj}, W.heap[x]? = some o → x ≠ c.b.u → (W.setCell ⟨c.b.u, 0, none⟩ (.int .i64 (u' : Int))).heap[x]? = some o := fun hx hne => blk_set_other hx hne _ _
  refine ⟨h.be.setCell h.lo.2.2.1 _, kb h.cp (blk_ty h.cp h.cu (by decide)), kb h.cd (blk_ty h.cd h.cu (by decide)), own_other h.rd (by simp [Value.ownBlock]; exact h.ne.2.2) _, kb h.cr h.ne.1, kb h.cm (blk_ty h.cm h.cu (by decide)),
    own_other h.rm (fun e => row_ty h.rm h.cu (by decide) _ e rfl) _, ?_, kb h.cg (blk_ty h.cg h.cu (by decide)), h.lo, h.ne, fun x hx => ?_⟩
  · exact blk_set h.cu 0 _
  · obtain ⟨a1, a2, a3⟩ := h.sep x hx
    exact ⟨a1, Nat.lt_of_lt_of_le a2 hg.size, a3⟩
theorem It.setR (h : It w c W ts r nx u mv P) (r' : Int) : It w c (W.setCell ⟨c.b.r, 0, none⟩ (.int .i64 r')) ts r' nx u mv P := by
  have hg := grown_set W c.b.r 0 (.int .i64 r')
  have kb : ∀ {x : Nat} {o : Obj}, W.heap[x]? = some o → x ≠ c.b.r → (W.setCell ⟨c.b.r, 0, none⟩ (.int .i64 r')).heap[x]? = some o := fun hx hne => blk_set_other hx hne _ _
  refine ⟨h.be.setCell h.lo.1 _, kb h.cp (blk_ty h.cp h.cr (by decide)), kb h.cd (blk_ty h.cd h.cr (by decide)), own_other h.rd (by simp [Value.ownBlock]; exact h.ne.2.1) _, ?_, kb h.cm (blk_ty h.cm h.cr (by decide)),
    own_other h.rm (fun e => row_ty h.rm h.cr (by decide) _ e rfl) _, kb h.cu (fun e => h.ne.1 e.symm), kb h.cg (blk_ty h.cg h.cr (by decide)), h.lo, h.ne, fun x hx => ?_⟩
  · exact blk_set h.cr 0 _
  · obtain ⟨a1, a2, a3⟩ := h.sep x hx
    exact ⟨a1, Nat.lt_of_lt_of_le a2 hg.size, a3⟩
theorem It.setD (h : It w c W ts r nx u mv P) (p k : Nat) : It w c (W.setCell ⟨c.b.gd, p, none⟩ (.int .i64 (k : Int))) ts r (fun q => if q = p then k else nx q) u mv P := by
  obtain ⟨cur, hgd⟩ := h.gdlt
  have hg := grown_set W c.b.gd p (.int .i64 (k : Int))
  have kb : ∀ {x : Nat} {o : Obj}, W.heap[x]? = some o → x ≠ c.b.gd → (W.setCell ⟨c.b.gd, p, none⟩ (.int .i64 (k : Int))).heap[x]? = some o := fun hx hne => blk_set_other hx hne _ _
  have hs := (h.rd.stored p (.int .i64 (k : Int))).1
  rw [natCells_set] at hs
  refine ⟨h.be.setCell h.lo.2.2.2.1 _, kb h.cp (blk_ty h.cp hgd (by decide)), kb h.cd (blk_ty h.cd hgd (by decide)), hs, kb h.cr (fun e => h.ne.2.1 e.symm), kb h.cm (blk_ty h.cm hgd (by decide)),
    own_other h.rm (fun e => row_ty h.rm hgd (by decide) _ e rfl) _, kb h.cu (fun e => h.ne.2.2 e.symm), kb h.cg (blk_ty h.cg hgd (by decide)), h.lo, h.ne, fun x hx => ?_⟩
  obtain ⟨a1, a2, a3⟩ := h.sep x hx
  exact ⟨a1, Nat.lt_of_lt_of_le a2 hg.size, a3⟩
/-- made is stored anew: a slice of its own, in its old row or in a new one. -/
theorem It.setM (h : It w c W ts r nx u mv P) (hg : W.grownBy W' mv.ownBlock) {mv' : Value} {ts' : List Hx.Trn} (hr : Trns W' 0 mv' ts') (hw : ∀ x, mv'.ownBlock = some x → mv.ownBlock = some x ∨ W.heap.size ≤ x) :
    It w c (W'.setCell ⟨c.b.m, 0, none⟩ mv') ts' r nx u mv' P := by
  have nb : ∀ {x : Nat} {y : Array Value} {t : TypeId} {f : Nat × Nat}, W.heap[x]? = some (.cells y t f) → 83 ≠ t → W'.heap[x]? = some (.cells y t f) := fun hx ht => blk_kept hx hg (fun e => own_not_box h.rm hx ht e.symm)
  have kb : ∀ {x : Nat} {o : Obj}, W'.heap[x]? = some o → x ≠ c.b.m → (W'.setCell ⟨c.b.m, 0, none⟩ mv').heap[x]? = some o := fun hx hne => blk_set_other hx hne _ _
  have cm' := nb h.cm (by decide)
  have rd' : W'.ownsRow 0 3 1 (.slice (some ⟨c.b.gd, 0, none⟩) c.ps.length c.ps.length) c.ps.length (natCells c.ps.length nx) := h.rd.kept hg (own_apart h.rd h.rm (by decide))
  refine ⟨(h.be.grown hg h.be.size (fun k e => h.lo.2.2.2.2 k e)).setCell h.lo.2.1 _, kb (nb h.cp (by decide)) (blk_ty h.cp h.cm (by decide)), kb (nb h.cd (by decide)) (blk_ty h.cd h.cm (by decide)), own_other rd' (fun e => row_ty h.rd h.cm (by decide) _ e rfl) _,
    kb (nb h.cr (by decide)) (blk_ty h.cr h.cm (by decide)), blk_set cm' 0 _, own_other hr (fun e => row_ty hr cm' (by decide) _ e rfl) _, kb (nb h.cu (by decide)) (blk_ty h.cu h.cm (by decide)), kb (nb h.cg (by decide)) (blk_ty h.cg h.cm (by decide)), ⟨h.lo.1, h.lo.2.1, h.lo.2.2.1, h.lo.2.2.2.1, fun x hx => ?_⟩, h.ne, fun x hx => ?_⟩
  · rcases hw x hx with e | e
    · exact h.lo.2.2.2.2 x e
    · exact Nat.le_trans h.be.size e
  · obtain ⟨a1, a2, a3, a4, a5, a6, a7, a8, a9, a10⟩ := h.sep x hx
    refine ⟨a1, ?_, a3, a4, a5, a6, a7, a8, a9, fun e => ?_⟩
    · have h1 := hg.size
      have h2 := (grown_set W' c.b.m 0 mv').size
      omega
    · rcases hw x e with e2 | e2
      · exact a10 e2
      · omega
theorem Frm.setM (c : Cx) (P : Nat → Prop) (hg : W.grownBy W' mv.ownBlock) {mv' : Value} (hw : ∀ x, mv'.ownBlock = some x → mv.ownBlock = some x ∨ W.heap.size ≤ x) : Frm c W P mv (W'.setCell ⟨c.b.m, 0, none⟩ mv') P mv' := by
  refine ⟨Nat.le_trans hg.size (grown_set W' c.b.m 0 mv').size, fun x hx hp h1 h2 h3 h4 h5 => ?_, fun _ h => Or.inl h, hw⟩
  rw [(grown_set W' c.b.m 0 mv').block x (Nat.lt_of_lt_of_le hx hg.size) (by simp; exact h2), hg.block x hx (fun e => h5 e.symm)]

/-- A row that is shortened. -/
theorem own_pop {W : World} {base n size cap g : Nat} {e : TypeId} {xs : List Value} (h : W.ownsRow base e size (.slice (some ⟨g, 0, none⟩) (n + 1) cap) (n + 1) xs) : W.ownsRow base e size (.slice (some ⟨g, 0, none⟩) n cap) n (xs.take (n * size)) := by
  rcases h.2 with ⟨e1, _⟩ | ⟨g', cap', cur, e1, h1, h2, h3, h4, h5, h6⟩
  · cases e1
  · cases e1
    refine ⟨?_, Or.inr ⟨g, cap, cur, rfl, h1, h2, by omega, h4, h5, ?_⟩⟩
    · have := h.1
      rw [List.length_take, this]
      have : n * size ≤ (n + 1) * size := Nat.mul_le_mul_right _ (by omega)
      omega
    · rw [← h6, List.take_take]
      have : n * size ≤ (n + 1) * size := Nat.mul_le_mul_right _ (by omega)
      rw [Nat.min_eq_left this]
theorem trnsCells_len (l : List Hx.Trn) : (trnsCells l).length = l.length * 8 := by
  induction l with
  | nil => rfl
  | cons t r ih =>
    have e : trnsCells (t :: r) = trnCells t ++ trnsCells r := rfl
    rw [e, List.length_append, ih]
    simp [trnCells]; omega
theorem trns_pop {W : World} {base cap g : Nat} {ts : List Hx.Trn} {t : Hx.Trn} (h : Trns W base (.slice (some ⟨g, 0, none⟩) (ts.length + 1) cap) (ts ++ [t])) : Trns W base (.slice (some ⟨g, 0, none⟩) ts.length cap) ts := by
  have h' : W.ownsRow base 83 8 (.slice (some ⟨g, 0, none⟩) (ts.length + 1) cap) (ts.length + 1) (trnsCells (ts ++ [t])) := by
    have := h
    unfold Trns at this
    rwa [List.length_append] at this
  have := own_pop h'
  rw [trnsCells_snoc, List.take_append_of_le_length (by rw [trnsCells_len]; exact Nat.le_refl _), List.take_of_length_le (by rw [trnsCells_len]; exact Nat.le_refl _)] at this
  exact this

end Go.Proofs.YtppcnlkhdgmaiaaDoor
namespace Go.Proofs.YtppcnlkhdgmaiaaDoor
open Go.RowKit

set_option maxRecDepth 100000 in
set_option maxHeartbeats 2000000 in
theorem clone_any (mv : Value) (ts : List Hx.Trn) (w : World) (hm : Trns w 0 mv ts) (hn : 0 < ts.length) (hl : ts.length ≤ 1000) :
    Calls Tryd.prog 70 #[mv] w fun e w' => ∃ sv, e = .returned sv ∧ Trns w' w.heap.size sv ts ∧ Below w.heap.size w w' := by
  obtain ⟨g, cap, rfl, _, hg⟩ := own_pos hm hn
  have HM := hide hm
  obtain ⟨i0, hi, hz0, hz1, hz2⟩ := info_parts Tryd.info83
  have HI := hide hi
  have HZ0 := hide hz0
  have HZ1 := hide hz1
  have HZ2 := hide hz2
  clear hm hi hz0 hz1 hz2
  have heq : ∀ W : World, (binOp .eql 87 (.slice (some ⟨g, 0, none⟩) ts.length cap) (.slice none 0 0)).run Tryd.prog W = .ok (.bool false) W := fun W => by
    have h := run_equal_slice_nil (P := Tryd.prog) W 87 83 (some ⟨g, 0, none⟩) ts.length cap Tryd.underlying87
    simp [binOp, h, Result.andThen, go_sem]
  go_enter Tryd.func70, Tryd.ntmps70
  go_wp2_with (at_builtin; refine wpList_append_own _ rfl _ _ 87 rfl w.heap.size 83 i0 (.agg #[.int .i64 0, .int .i64 0, .bool false, .int .i64 0, .int .i64 0, .int .i64 0, .int .i64 0, .bool false]) 8 64 Tryd.underlying87 (unhide HI) (unhide HZ0) (unhide HZ1) (unhide HZ2) rfl (by decide) (.slice (some ⟨w.heap.size, 0, none⟩) 0 0) 0 [] rfl ?d0 ⟨g, 0, none⟩ ts.length cap (trnsCells ts) rfl (trnsCells_len ts) ?d1 ?d2 ?d3 ?d4 ?d5 ?_)
  case d0 => exact ⟨rfl, Or.inr ⟨w.heap.size, 0, #[], rfl, Nat.le_refl _, blk_new w #[] 83, Nat.le_refl _, by unfold maxLen; omega, rfl, rfl⟩⟩
  case d1 =>
    intro j u hj
    have hjl : j < ts.length * 8 := by
      have := Hx.getElem?_lt hj
      rwa [trnsCells_len] at this
    have h1 := (unhide HM).cellAt j hjl
    rw [hj] at h1
    have e : (⟨g, 0, none⟩ : Addr).add j = ⟨g, j, none⟩ := by unfold Addr.add; split <;> simp_all
    rw [e]
    exact cA _ h1
  case d2 =>
    intro u hu
    obtain ⟨t, _, h⟩ := List.mem_flatMap.1 hu
    exact trnCells_one t u h
  case d3 => unfold maxLen; omega
  case d4 => omega
  case d5 => simp
  · intro v' w1 hown' hgrow _
    have HO := hide hown'
    have HG := hide hgrow
    clear hown' hgrow
    go_wp2_with fail
    go_returns
    refine ⟨_, rfl, ?_, (belA _ (Below.refl _ _)).grown (unhide HG) (by simp) (fun k e => by simp [Value.ownBlock] at e; omega)⟩
    have := unhide HO
    simpa using this

end Go.Proofs.YtppcnlkhdgmaiaaDoor
namespace Go.Proofs.YtppcnlkhdgmaiaaDoor
open Go.RowKit

namespace Hx
/-- No times keep this rest. -/
def hopeB (J : Nat) (a x : Stp) : Bool := x.rest && decide ((a.lo : Int) + x.mx - J < (J : Int) + a.hi + x.mn)
def tightAt (J : Nat) (L : List Lst) (i : Nat) : Bool :=
  match L[i]? with
  | none => false
  | some y => y.x.rest && match L[i - 1]? with | none => false | some a => hopeB J a.x y.x
def firstTight (J : Nat) (L : List Lst) : Option Nat := (List.range L.length).find? (tightAt J L)
def zeroT : Trn := ⟨⟨0, 0, false, 0, 0⟩, 0, 0, false⟩
def tightT (J : Nat) (ps : List (List Stp)) : Trn := match firstTight J (labs ps) with | some i => turnOfIdx ps i | none => zeroT
/-- Every number of the steps is of at most three digits. -/
def Small (ps : List (List Stp)) : Prop := ∀ q ∈ ps, ∀ x ∈ q, x.lo < 1000 ∧ x.hi < 1000 ∧ x.mn < 1000 ∧ x.mx < 1000
theorem tightAt_no {J : Nat} {ps : List (List Stp)} {p n : Nat} {q : List Stp} {x : Stp} (hq : ps[p]? = some q) (hx : q[n]? = some x) (hr : x.rest = false) : tightAt J (labs ps) (offP ps p + n) = false := by
  simp [tightAt, labs_at hq hx, hr]
theorem tightAt_at {J : Nat} {ps : List (List Stp)} {p n : Nat} {q : List Stp} {x a : Stp} (hq : ps[p]? = some q) (hx : q[n + 1]? = some x) (ha : q[n]? = some a) : tightAt J (labs ps) (offP ps p + (n + 1)) = hopeB J a x := by
  simp only [tightAt, labs_at hq hx]
  rw [show offP ps p + (n + 1) - 1 = offP ps p + n by omega, labs_at hq ha]
  simp [hopeB]
theorem firstTight_none {J : Nat} {ps : List (List Stp)} (h : ∀ i, i < offP ps ps.length → tightAt J (labs ps) i = false) : firstTight J (labs ps) = none := by
  rw [firstTight, List.find?_eq_none]
  intro i hi
  have := h i (by rw [offP_end]; simpa using hi)
  simp [this]
theorem firstTight_some {J : Nat} {L : List Lst} {k : Nat} (hk : k < L.length) (h : ∀ i, i < k → tightAt J L i = false) (hh : tightAt J L k = true) : firstTight J L = some k := by
  rw [firstTight, List.find?_eq_some_iff_append]
  refine ⟨hh, List.range k, (List.range (L.length - k - 1)).map (fun i => k + 1 + i), ?_, ?_⟩
  · have e : L.length = k + (1 + (L.length - k - 1)) := by omega
    conv => lhs; rw [e]
    rw [List.range_add, List.range_add]
    simp [List.range_succ, Function.comp_def]
    intro a _
    omega
  · intro i hi
    have := h i (by simpa using hi)
    simp [this]
end Hx

set_option maxRecDepth 100000 in
set_option maxHeartbeats 4000000 in
theorem hope_any (J K D : Nat) (v : Value) (base : Nat) (ps : List (List Hx.Stp)) (w : World) (hps : Plts w base v ps) (hn : 0 < ps.length) (hl : ps.length ≤ 121) (hf : Hx.Fine ps) (hsm : Hx.Small ps) (hJ : J < 10) :
    Calls Tryd.prog 32 #[.agg #[.int .i64 (J : Int), .int .i64 (K : Int), .int .i64 (D : Int), v]] w fun e w' => e = .returned (.tuple #[.agg (trnCells (Hx.tightT J ps)).toArray, .bool (Hx.firstTight J (Hx.labs ps)).isSome]) ∧ Below w.heap.size w w' := by
  have HPS := hide hps
  have HF := hide hf
  have HSM := hide hsm
  obtain ⟨g, cap, rfl, hg⟩ : ∃ g cap, v = .slice (some ⟨g, 0, none⟩) ps.length cap ∧ g < w.heap.size := by
    obtain ⟨vs, hvs, hpp⟩ := hps
    obtain ⟨g, cap, e, _, hg⟩ := own_pos hvs hn
    exact ⟨g, cap, e, hg⟩
  clear hps hf hsm
  go_enter Tryd.func32, Tryd.ntmps32
  go_wp2_with fail
  go_loopg [12] ps.length (fun gk i wr => ∃ k : Nat, k ≤ ps.length ∧ gk = ps.length - k ∧ i = .int .i64 (k : Int) ∧ (∀ i, i < Hx.offP ps k → Hx.tightAt J (Hx.labs ps) i = false) ∧ Below w.heap.size w wr ∧ wr.heap[w.heap.size]? = some (.cells #[.int .i64 (J : Int), .int .i64 (K : Int), .int .i64 (D : Int), .slice (some ⟨g, 0, none⟩) ps.length cap] 75 (0, 0)) ∧ wr.heap[w.heap.size + 1]? = some (.cells #[.int .i64 0, .int .i64 0, .bool false, .int .i64 0, .int .i64 0, .int .i64 0, .int .i64 0, .bool false] 83 (0, 0)))
  case atStart =>
    refine ⟨0, Nat.zero_le _, rfl, rfl, by simp [Hx.offP], ((Below.refl _ _).alloc (Nat.le_refl _) _).alloc (by simp) _, blk_kept (blk_new _ _ _) (grown_alloc _ _ none) (by simp), ?_⟩
    have h := blk_new (w.alloc (.cells #[.int .i64 (J : Int), .int .i64 (K : Int), .int .i64 (D : Int), .slice (some ⟨g, 0, none⟩) ps.length cap] 75)) #[.int .i64 0, .int .i64 0, .bool false, .int .i64 0, .int .i64 0, .int .i64 0, .int .i64 0, .bool false] 83
    rw [size_alloc_] at h
    exact h
  case round =>
    obtain ⟨k, hk, rfl, rfl, hall, hbe, hbox, hres⟩ := hrel
    have HALL := hide hall
    have HBE := hide hbe
    have HBOX := hide hbox
    have HRES := hide hres
    clear hall hbe hbox hres
    by_cases hlt : k < ps.length
    · obtain ⟨p, hp⟩ : ∃ p, ps[k]? = some p := ⟨ps[k], List.getElem?_eq_getElem hlt⟩
      obtain ⟨x0, r0, ep, hx0⟩ := unhide HF k p hp
      have hp0 : 0 < p.length := by rw [ep]; simp
      have HP0 : Hid (∀ x, p[0]? = some x → x.rest = false) := fun x hx => by rw [ep] at hx; simp at hx; rw [← hx]; exact hx0
      have HSP : Hid (∀ x ∈ p, x.lo < 1000 ∧ x.hi < 1000 ∧ x.mn < 1000 ∧ x.mx < 1000) := unhide HSM p (List.mem_of_getElem? hp)
      obtain ⟨g', cap', g2, cap2, e', _, _, hg2, _, hc, hq121, hst⟩ := (unhide HPS).plate hp hp0
      cases e'
      have cP : wr.cell? ⟨g, k, none⟩ = some (.slice (some ⟨g2, 0, none⟩) p.length cap2) := by
        rw [(unhide HBE).cell (p := ⟨g, k, none⟩) hg]; exact hc
      have HST := hide hst
      have HP := hide hp
      clear hst hp hc ep hx0
      go_wp2_with fail
      clear cP
      go_loopg [19] p.length (fun gk j wr2 => ∃ m : Nat, m ≤ p.length ∧ gk = p.length - m ∧ j = .int .i64 (m : Int) ∧ (∀ i, i < Hx.offP ps k + m → Hx.tightAt J (Hx.labs ps) i = false) ∧ Below w.heap.size w wr2 ∧ wr2.heap[w.heap.size]? = some (.cells #[.int .i64 (J : Int), .int .i64 (K : Int), .int .i64 (D : Int), .slice (some ⟨g, 0, none⟩) ps.length cap] 75 (0, 0)) ∧ wr2.heap[w.heap.size + 1]? = some (.cells #[.int .i64 0, .int .i64 0, .bool false, .int .i64 0, .int .i64 0, .int .i64 0, .int .i64 0, .bool false] 83 (0, 0)))
      case atStart => exact ⟨0, Nat.zero_le _, rfl, rfl, unhide HALL, unhide HBE, unhide HBOX, unhide HRES⟩
      case round =>
        clear HBE HBOX HRES
        obtain ⟨m, hm, rfl, rfl, hall2, hbe, hbox, hres⟩ := hrel
        have HALL2 := hide hall2
        have HBE := hide hbe
        have HBOX := hide hbox
        have HRES := hide hres
        clear hall2 hbe hbox hres
        by_cases hml : m < p.length
        · obtain ⟨x, hx⟩ : ∃ x, p[m]? = some x := ⟨p[m], List.getElem?_eq_getElem hml⟩
          have HX := hide hx
          have cx : ∀ t, t < 5 → wr.cell? ⟨g2, m * 5 + t, none⟩ = (stpCells x)[t]? := fun t ht => by
            rw [(unhide HBE).cell (p := ⟨g2, m * 5 + t, none⟩) hg2]; exact unhide HST m x hx t ht
          have x0 : wr.cell? ⟨g2, m * 5, none⟩ = some (.int .i64 (x.lo : Int)) := cx 0 (by omega)
          have x1 : wr.cell? ⟨g2, m * 5 + 1, none⟩ = some (.int .i64 (x.hi : Int)) := cx 1 (by omega)
          have x2 : wr.cell? ⟨g2, m * 5 + 2, none⟩ = some (.bool x.rest) := cx 2 (by omega)
          have x3 : wr.cell? ⟨g2, m * 5 + 3, none⟩ = some (.int .i64 (x.mn : Int)) := cx 3 (by omega)
          have x4 : wr.cell? ⟨g2, m * 5 + 4, none⟩ = some (.int .i64 (x.mx : Int)) := cx 4 (by omega)
          clear hx cx
          go_upto_region 7 with fail
          have HBX := hide (blk_new wr #[.int .i64 (x.lo : Int), .int .i64 (x.hi : Int), .bool x.rest, .int .i64 (x.mn : Int), .int .i64 (x.mx : Int)] 81)
          have HBOX1 := hide (blk_kept (unhide HBOX) (grown_alloc wr (.cells #[.int .i64 (x.lo : Int), .int .i64 (x.hi : Int), .bool x.rest, .int .i64 (x.mn : Int), .int .i64 (x.mx : Int)] 81) none) (by simp))
          have HRES1 := hide (blk_kept (unhide HRES) (grown_alloc wr (.cells #[.int .i64 (x.lo : Int), .int .i64 (x.hi : Int), .bool x.rest, .int .i64 (x.mn : Int), .int .i64 (x.mx : Int)] 81) none) (by simp))
          have HBE1 := hide ((unhide HBE).alloc (unhide HBE).size (.cells #[.int .i64 (x.lo : Int), .int .i64 (x.hi : Int), .bool x.rest, .int .i64 (x.mn : Int), .int .i64 (x.mx : Int)] 81))
          clear x0 x1 x2 x3 x4
          obtain ⟨xb, hxb⟩ : ∃ xb, xb = wr.heap.size := ⟨_, rfl⟩
          rw [← hxb] at HBX ⊢
          have HXB : Hid (w.heap.size ≤ xb) := by rw [hxb]; exact (unhide HBE).size
          clear hxb
          generalize wr.alloc (.cells #[.int .i64 (x.lo : Int), .int .i64 (x.hi : Int), .bool x.rest, .int .i64 (x.mn : Int), .int .i64 (x.mx : Int)] 81) = w1 at *
          have x2 : w1.cell? ⟨xb, 2, none⟩ = some (.bool x.rest) := blk_cell (unhide HBX) 2
          cases hr : x.rest
          · have hno := hide (Hx.tightAt_no (J := J) (unhide HP) (unhide HX) hr)
            rw [hr] at x2
            clear hr
            go_wp2_with fail
            go_roundg (p.length - (m + 1))
            case measure => omega
            case rel =>
              refine ⟨m + 1, by omega, rfl, by go_num, fun i hi => ?_, unhide HBE1, unhide HBOX1, unhide HRES1⟩
              by_cases e : i < Hx.offP ps k + m
              · exact unhide HALL2 i e
              · rw [show i = Hx.offP ps k + m by omega]; exact unhide hno
          · obtain ⟨mp, hmp⟩ : ∃ mp, m = mp + 1 := by
              cases m with
              | zero => have := unhide HP0 x (unhide HX); rw [hr] at this; cases this
              | succ m => exact ⟨m, rfl⟩
            obtain ⟨a, ha⟩ : ∃ a, p[mp]? = some a := ⟨p[mp], List.getElem?_eq_getElem (by omega)⟩
            have HTA := hide (Hx.tightAt_at (J := J) (unhide HP) (by rw [← hmp]; exact unhide HX) ha)
            obtain ⟨sx1, sx2, sx3, sx4⟩ := unhide HSP x (List.mem_of_getElem? (unhide HX))
            obtain ⟨sa1, sa2, sa3, sa4⟩ := unhide HSP a (List.mem_of_getElem? ha)
            rw [hr] at x2
            have cx : ∀ t, t < 5 → w1.cell? ⟨g2, mp * 5 + t, none⟩ = (stpCells a)[t]? := fun t ht => by
              rw [(unhide HBE1).cell (p := ⟨g2, mp * 5 + t, none⟩) hg2]; exact unhide HST mp a ha t ht
            have a0 : w1.cell? ⟨g2, mp * 5, none⟩ = some (.int .i64 (a.lo : Int)) := cx 0 (by omega)
            have a1 : w1.cell? ⟨g2, mp * 5 + 1, none⟩ = some (.int .i64 (a.hi : Int)) := cx 1 (by omega)
            have a2 : w1.cell? ⟨g2, mp * 5 + 2, none⟩ = some (.bool a.rest) := cx 2 (by omega)
            have a3 : w1.cell? ⟨g2, mp * 5 + 3, none⟩ = some (.int .i64 (a.mn : Int)) := cx 3 (by omega)
            have a4 : w1.cell? ⟨g2, mp * 5 + 4, none⟩ = some (.int .i64 (a.mx : Int)) := cx 4 (by omega)
            have x3 : w1.cell? ⟨xb, 3, none⟩ = some (.int .i64 (x.mn : Int)) := blk_cell (unhide HBX) 3
            have x4 : w1.cell? ⟨xb, 4, none⟩ = some (.int .i64 (x.mx : Int)) := blk_cell (unhide HBX) 4
            have j0 : w1.cell? ⟨w.heap.size, 0, none⟩ = some (.int .i64 (J : Int)) := blk_cell (unhide HBOX1) 0
            have HR := hide hr
            have HA := hide ha
            have hm0 : (0 : Int) ≤ (mp : Int) := by omega
            have hmi : (mp : Int) < (p.length : Int) := by omega
            have hmw : IntKind.i64.wrap ((m : Int) - 1) = (mp : Int) := by
              have : (m : Int) - 1 = (mp : Int) := by omega
              rw [this]
              exact IntWalk.i64_in _ ⟨by omega, by omega⟩
            have HMP := hide hmp
            clear cx ha hr hmp
            go_wp2_with fail
            go_cut [8] (fun s8 wc => ∃ sb, s8 = .pointer (some ⟨sb, 0, none⟩) ∧ wc.heap[sb]? = some (.cells #[.int .i64 ((J : Int) + a.hi + x.mn), .int .i64 ((a.lo : Int) + x.mx - J)] 79 (0, 0)) ∧ Below w.heap.size w wc ∧ wc.heap[w.heap.size]? = some (.cells #[.int .i64 (J : Int), .int .i64 (K : Int), .int .i64 (D : Int), .slice (some ⟨g, 0, none⟩) ps.length cap] 75 (0, 0)) ∧ wc.heap[w.heap.size + 1]? = some (.cells #[.int .i64 0, .int .i64 0, .bool false, .int .i64 0, .int .i64 0, .int .i64 0, .int .i64 0, .bool false] 83 (0, 0)))
            case first =>
              go_region_held3 (fun w' => w'.cell? ⟨w.heap.size, 0, none⟩ = some (.int .i64 (J : Int)) ∧ w'.cell? ⟨g2, mp * 5, none⟩ = some (.int .i64 (a.lo : Int)) ∧ w'.cell? ⟨g2, mp * 5 + 1, none⟩ = some (.int .i64 (a.hi : Int)) ∧ w'.cell? ⟨g2, mp * 5 + 2, none⟩ = some (.bool a.rest) ∧ w'.cell? ⟨g2, mp * 5 + 3, none⟩ = some (.int .i64 (a.mn : Int)) ∧ w'.cell? ⟨g2, mp * 5 + 4, none⟩ = some (.int .i64 (a.mx : Int)) ∧ w'.cell? ⟨xb, 3, none⟩ = some (.int .i64 (x.mn : Int)) ∧ w'.cell? ⟨xb, 4, none⟩ = some (.int .i64 (x.mx : Int))) (refine ⟨?_, ?_, ?_, ?_, ?_, ?_, ?_, ?_⟩ <;> (repeat (first | assumption | apply cD | apply cA)))
                (first | (go_at_call 48; refine (apart_any J a x.mn x.mx _ (by omega) sa1 sa2 sx3 sx4).mono ?_; rintro e w2 ⟨rfl, rfl⟩))
              all_goals
                go_wp2_with fail
                go_meet
                case rel =>
                  refine ⟨_, rfl, ?_, ?_, ?_, ?_⟩
                  · repeat (first | (refine bN _ _ ?_; simp; done) | apply bD | apply bA)
                  · repeat (first | exact unhide HBE1 | apply belD | apply belA)
                  · repeat (first | exact unhide HBOX1 | apply bD | apply bA)
                  · repeat (first | exact unhide HRES1 | apply bD | apply bA)
            case rest =>
              obtain ⟨sb, rfl, hsb, hbe2, hbox2, hres2⟩ := hcut
              clear a0 a1 a2 a3 a4 x2 x3 x4 j0 HBOX1 HRES1 HBX HBE1
              have s0 : wc.cell? ⟨sb, 0, none⟩ = some (.int .i64 ((J : Int) + a.hi + x.mn)) := blk_cell hsb 0
              have s1 : wc.cell? ⟨sb, 1, none⟩ = some (.int .i64 ((a.lo : Int) + x.mx - J)) := blk_cell hsb 1
              have HBE2 := hide hbe2
              have HBOX2 := hide hbox2
              have HRES2 := hide hres2
              clear hsb hbe2 hbox2 hres2
              by_cases htt : (a.lo : Int) + x.mx - J < (J : Int) + a.hi + x.mn
              · have hyes : Hid (Hx.tightAt J (Hx.labs ps) (Hx.offP ps k + m) = true) := by
                  show _ = _
                  rw [unhide HMP, unhide HTA]; simp [Hx.hopeB, unhide HR, htt]
                have hLlt : Hid (Hx.offP ps k + m < (Hx.labs ps).length) := Hx.getElem?_lt (Hx.labs_at (unhide HP) (unhide HX))
                have hfin : Hid (Hx.firstTight J (Hx.labs ps) = some (Hx.offP ps k + m)) := Hx.firstTight_some (unhide hLlt) (unhide HALL2) (unhide hyes)
                have hta : Hx.turnAt ps k m = some ⟨x, k, m, Hx.begB p m⟩ := by simp [Hx.turnAt, unhide HP, unhide HX]
                have htt2 : Hid (Hx.tightT J ps = ⟨x, k, m, Hx.begB p m⟩) := by
                  show _ = _
                  have := Hx.turnOfIdx_at (unhide HF) hta
                  simp only [Hx.idxT] at this
                  rw [Hx.tightT, unhide hfin]
                  exact this
                have HTA2 := hide hta
                have y0 : wc.cell? ⟨w.heap.size, 0, none⟩ = some (.int .i64 (J : Int)) := blk_cell (unhide HBOX2) 0
                have y1 : wc.cell? ⟨w.heap.size, 1, none⟩ = some (.int .i64 (K : Int)) := blk_cell (unhide HBOX2) 1
                have y2 : wc.cell? ⟨w.heap.size, 2, none⟩ = some (.int .i64 (D : Int)) := blk_cell (unhide HBOX2) 2
                have y3 : wc.cell? ⟨w.heap.size, 3, none⟩ = some (.slice (some ⟨g, 0, none⟩) ps.length cap) := blk_cell (unhide HBOX2) 3
                clear hta
                go_wp2_with fail
                have HPS2 : Hid (Plts wc base (.slice (some ⟨g, 0, none⟩) ps.length cap) ps) := (unhide HPS).below (unhide HBE2)
                refine (turn_any J K D _ base ps _ k m _ (unhide HPS2) (unhide HTA2)).mono ?_
                rintro e w3 ⟨rfl, hb3⟩
                have HRES3 := hide ((hb3.block _ (lt_of_block (unhide HRES2))).trans (unhide HRES2))
                have HBE3 := hide ((unhide HBE2).trans (hb3.mono (unhide HBE2).size))
                clear hb3 y0 y1 y2 y3 s0 s1
                have e0 : w3.cell? ⟨w.heap.size + 1, 0, none⟩ = some (.int .i64 0) := blk_cell (unhide HRES3) 0
                have e1 : w3.cell? ⟨w.heap.size + 1, 1, none⟩ = some (.int .i64 0) := blk_cell (unhide HRES3) 1
                have e2 : w3.cell? ⟨w.heap.size + 1, 2, none⟩ = some (.bool false) := blk_cell (unhide HRES3) 2
                have e3 : w3.cell? ⟨w.heap.size + 1, 3, none⟩ = some (.int .i64 0) := blk_cell (unhide HRES3) 3
                have e4 : w3.cell? ⟨w.heap.size + 1, 4, none⟩ = some (.int .i64 0) := blk_cell (unhide HRES3) 4
                have e5 : w3.cell? ⟨w.heap.size + 1, 5, none⟩ = some (.int .i64 0) := blk_cell (unhide HRES3) 5
                have e6 : w3.cell? ⟨w.heap.size + 1, 6, none⟩ = some (.int .i64 0) := blk_cell (unhide HRES3) 6
                have e7 : w3.cell? ⟨w.heap.size + 1, 7, none⟩ = some (.bool false) := blk_cell (unhide HRES3) 7
                have ef := blk_free (unhide HRES3)
                go_wp2_with fail
                refine bodyPost_ret (v := .tuple #[.agg #[.int .i64 (x.lo : Int), .int .i64 (x.hi : Int), .bool x.rest, .int .i64 (x.mn : Int), .int .i64 (x.mx : Int), .int .i64 (k : Int), .int .i64 (m : Int), .bool (Hx.begB p m)], .bool true]) (by simp [results, Tryd.results32, go_sem, e0, e1, e2, e3, e4, e5, e6, e7]) rfl ?_
                have hle : w.heap.size ≤ w.heap.size + 1 := by omega
                exact ⟨by rw [unhide htt2, unhide hfin]; rfl, (((((((((unhide HBE3).setCell hle _).setCell hle _).setCell hle _).setCell hle _).setCell hle _).setCell hle _).setCell hle _).setCell hle _)⟩
              · have hno : Hid (Hx.tightAt J (Hx.labs ps) (Hx.offP ps k + m) = false) := by
                  show _ = _
                  rw [unhide HMP, unhide HTA]; simp [Hx.hopeB, htt]
                have htt' : decide ((a.lo : Int) + x.mx - J < (J : Int) + a.hi + x.mn) = false := by simp; omega
                go_wp2_with fail
                go_roundg (p.length - (m + 1))
                case measure => omega
                case rel =>
                  refine ⟨m + 1, by omega, rfl, by go_num, fun i hi => ?_, unhide HBE2, unhide HBOX2, unhide HRES2⟩
                  by_cases e : i < Hx.offP ps k + m
                  · exact unhide HALL2 i e
                  · rw [show i = Hx.offP ps k + m by omega]; exact unhide hno
        · have hme : m = p.length := by omega
          have HNEW := hide (Hx.offP_succ (unhide HP))
          have HME := hide hme
          clear hme
          go_wp2_with fail
          go_roundg (ps.length - (k + 1))
          case measure => omega
          case rel =>
            refine ⟨k + 1, by omega, rfl, by go_num, ?_, unhide HBE, unhide HBOX, unhide HRES⟩
            rw [unhide HNEW, ← unhide HME]; exact unhide HALL2
    · have hke : k = ps.length := by omega
      have hfin : Hid (Hx.firstTight J (Hx.labs ps) = none) := Hx.firstTight_none (by
        have := unhide HALL
        rw [hke] at this
        exact this)
      clear hke
      have e0 : wr.cell? ⟨w.heap.size + 1, 0, none⟩ = some (.int .i64 0) := blk_cell (unhide HRES) 0
      have e1 : wr.cell? ⟨w.heap.size + 1, 1, none⟩ = some (.int .i64 0) := blk_cell (unhide HRES) 1
      have e2 : wr.cell? ⟨w.heap.size + 1, 2, none⟩ = some (.bool false) := blk_cell (unhide HRES) 2
      have e3 : wr.cell? ⟨w.heap.size + 1, 3, none⟩ = some (.int .i64 0) := blk_cell (unhide HRES) 3
      have e4 : wr.cell? ⟨w.heap.size + 1, 4, none⟩ = some (.int .i64 0) := blk_cell (unhide HRES) 4
      have e5 : wr.cell? ⟨w.heap.size + 1, 5, none⟩ = some (.int .i64 0) := blk_cell (unhide HRES) 5
      have e6 : wr.cell? ⟨w.heap.size + 1, 6, none⟩ = some (.int .i64 0) := blk_cell (unhide HRES) 6
      have e7 : wr.cell? ⟨w.heap.size + 1, 7, none⟩ = some (.bool false) := blk_cell (unhide HRES) 7
      have ef := blk_free (unhide HRES)
      go_wp2_with fail
      refine bodyPost_ret (v := .tuple #[.agg #[.int .i64 0, .int .i64 0, .bool false, .int .i64 0, .int .i64 0, .int .i64 0, .int .i64 0, .bool false], .bool false]) (by simp [results, Tryd.results32, go_sem, e0, e1, e2, e3, e4, e5, e6, e7]) rfl ?_
      have hle : w.heap.size ≤ w.heap.size + 1 := by omega
      exact ⟨by rw [Hx.tightT, unhide hfin]; rfl, (((((((((unhide HBE).setCell hle _).setCell hle _).setCell hle _).setCell hle _).setCell hle _).setCell hle _).setCell hle _).setCell hle _)⟩

end Go.Proofs.YtppcnlkhdgmaiaaDoor
