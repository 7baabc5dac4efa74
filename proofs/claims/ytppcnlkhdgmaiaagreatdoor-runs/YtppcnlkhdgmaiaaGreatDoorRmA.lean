/- The machine as it lies in memory; what stepIsOver does. -/
import Derived.Test.YtppcnlkhdgmaiaaGreatDoorRtD
import Derived.Test.YtppcnlkhdgmaiaaGreatDoorPm
import Derived.Laws.OwnMore
namespace Go.Proofs.YtppcnlkhdgmaiaaGreatDoor
open Go.RowKit

/-- What the machine has seen of a step, as it lies. -/
def stCells (p : Nat × Option Nat) : List Value := [.int .i64 (p.1 : Int), .int .i64 ((p.2.getD 0 : Nat) : Int), .bool p.2.isSome]
def stsCells (l : List (Nat × Option Nat)) : List Value := l.flatMap stCells
theorem stsCells_snoc (l : List (Nat × Option Nat)) (y : Nat × Option Nat) : stsCells (l ++ [y]) = stsCells l ++ stCells y := by simp [stsCells]
theorem stsCells_cons (y : Nat × Option Nat) (l : List (Nat × Option Nat)) : stsCells (y :: l) = stCells y ++ stsCells l := rfl
theorem stCells_one (y : Nat × Option Nat) : ∀ u ∈ stCells y, u.oneCell' = true := by
  intro u hu
  simp only [stCells, List.mem_cons, List.not_mem_nil, or_false] at hu
  rcases hu with rfl | rfl | rfl <;> rfl
theorem stsCells_at (l : List (Nat × Option Nat)) (j : Nat) (x : Nat × Option Nat) (h : l[j]? = some x) (t : Nat) (ht : t < 3) : (stsCells l)[j * 3 + t]? = (stCells x)[t]? := by
  induction l generalizing j with
  | nil => simp at h
  | cons y r ih =>
    rw [stsCells_cons]
    have hl : (stCells y).length = 3 := rfl
    cases j with
    | zero =>
      simp at h
      subst h
      rw [Nat.zero_mul, Nat.zero_add, List.getElem?_append_left (by omega)]
    | succ j =>
      rw [List.getElem?_append_right (by omega), hl, show (j + 1) * 3 + t - 3 = j * 3 + t by omega]
      exact ih j (by simpa using h)
theorem stsCells_set (l : List (Nat × Option Nat)) (j : Nat) (b v : Nat) (o : Option Nat) (h : l[j]? = some (b, o)) : ((stsCells l).set (j * 3 + 1) (.int .i64 (v : Int))).set (j * 3 + 2) (.bool true) = stsCells (l.set j (b, some v)) := by
  induction l generalizing j with
  | nil => simp at h
  | cons y r ih =>
    cases j with
    | zero =>
      simp at h
      subst h
      simp [stsCells_cons, stCells]
    | succ j =>
      rw [List.set_cons_succ, stsCells_cons, stsCells_cons, ← ih j (by simpa using h)]
      have hl : (stCells y).length = 3 := rfl
      rw [List.set_append_right _ _ (by omega), List.set_append_right _ _ (by omega), hl, show (j + 1) * 3 + 1 - 3 = j * 3 + 1 by omega, show (j + 1) * 3 + 2 - 3 = j * 3 + 2 by omega]

/-- What the machine goes by, and where it lies. -/
structure Mh where
  b : Nat
  J : Nat
  tv : Value
  cv : Value
  kv : Value
  l : List Hx.TStp
  clock : List Nat
  takes : List Nat
def machL (h : Mh) (m : Hx.Ms) (sv : Value) : List Value := [.int .i64 (h.J : Int), h.tv, h.cv, h.kv, .int .i64 (m.time : Int), .int .i64 (m.k : Int), .bool m.work, sv] ++ ints m.rb
/-- The machine, as it lies: its block, its row of stints; nothing else that was there has changed. -/
structure Mem (h : Mh) (w0 w : World) (m : Hx.Ms) (sv : Value) (xs : List Value) : Prop where
  blk : w.heap[h.b]? = some (.cells (machL h m sv).toArray 91 (0, 0))
  row : w.ownsRow w0.heap.size 148 3 sv m.sts.length xs
  gr : w0.grownBy w (some h.b)
/-- What lies there for good. -/
structure Stat (h : Mh) (w0 : World) : Prop where
  lt : h.b < w0.heap.size
  t : w0.ownsRow 0 146 11 h.tv h.l.length (ptsCells h.l)
  tb : h.tv.ownBlock = none ∨ h.tv.ownBlock ≠ some h.b
  c : w0.ownsRow 0 3 1 h.cv h.clock.length (ints (nats h.clock))
  cb : h.cv.ownBlock = none ∨ h.cv.ownBlock ≠ some h.b
  k : w0.ownsRow 0 3 1 h.kv h.takes.length (ints (nats h.takes))
  kb : h.kv.ownBlock = none ∨ h.kv.ownBlock ≠ some h.b
  ok : ∀ y ∈ h.l, Hx.TOk y
  ll : h.l.length ≤ 401
  cl : h.clock.length ≤ 1000
  kl : h.takes.length ≤ 1000
  kn : ∀ n ∈ h.takes, n < 1000
  j : h.J < 10
/-- Numbers within bounds. -/
structure MN (m : Hx.Ms) : Prop where
  time : m.time ≤ 1000000
  sts : ∀ p ∈ m.sts, p.1 ≤ 1000000
  len : m.sts.length ≤ 1000
  rb : m.rb.length = 4
  rbs : ∀ r ∈ m.rb, 0 ≤ r ∧ r ≤ 2000000

theorem Mem.drewN {h w0 w m sv xs} (x : Mem h w0 w m sv xs) (n : Nat) : Mem h w0 (w.drewN n) m sv xs := ⟨x.blk, x.row.kept (grown_drewN w n none) (by cases sv.ownBlock <;> simp), grown_trans x.gr (grown_drewN _ _ _)⟩
theorem Mem.alloc {h w0 w m sv xs} (x : Mem h w0 w m sv xs) (o : Obj) : Mem h w0 (w.alloc o) m sv xs := ⟨bA o x.blk, x.row.alloc o, grown_trans x.gr (grown_alloc _ _ _)⟩
theorem Mem.drew {h w0 w m sv xs} (x : Mem h w0 w m sv xs) : Mem h w0 w.drew m sv xs := x.drewN 1
theorem Mem.t {h w0 w m sv xs} (x : Mem h w0 w m sv xs) (s : Stat h w0) : w.ownsRow 0 146 11 h.tv h.l.length (ptsCells h.l) := s.t.kept x.gr s.tb
theorem Mem.tk {h w0 w m sv xs} (x : Mem h w0 w m sv xs) (s : Stat h w0) : w.ownsRow 0 3 1 h.kv h.takes.length (ints (nats h.takes)) := s.k.kept x.gr s.kb
theorem Mem.ck {h w0 w m sv xs} (x : Mem h w0 w m sv xs) (s : Stat h w0) : w.ownsRow 0 3 1 h.cv h.clock.length (ints (nats h.clock)) := s.c.kept x.gr s.cb
theorem Mem.ne {h w0 w m sv xs} (x : Mem h w0 w m sv xs) (s : Stat h w0) {g n cap : Nat} (e : sv = .slice (some ⟨g, 0, none⟩) n cap) : g ≠ h.b := by
  have := (x.row.lt g (by rw [e]; rfl)).1
  have := s.lt
  omega
theorem own_set_low' {w : World} {base : Nat} {e : TypeId} {size : Nat} {v : Value} {n : Nat} {xs : List Value} (h : w.ownsRow base e size v n xs) {k : Nat} (hk : k < base) (o : Nat) (x : Value) : (w.setCell ⟨k, o, none⟩ x).ownsRow base e size v n xs := h.kept (grown_set w k o x) (own_ne h hk)
/-- A cell of the machine's block is stored into. -/
theorem Mem.put {h w0 w m sv xs} (x : Mem h w0 w m sv xs) (s : Stat h w0) (i : Nat) (v : Value) (m' : Hx.Ms) (sv' : Value) (hm : (machL h m sv).set i v = machL h m' sv') (hrow : w.ownsRow w0.heap.size 148 3 sv' m'.sts.length xs) : Mem h w0 (w.setCell ⟨h.b, i, none⟩ v) m' sv' xs := by
  refine ⟨?_, own_set_low' hrow s.lt i v, grown_trans x.gr (grown_set _ _ _ _)⟩
  have := blk_set x.blk i v
  rw [List.setIfInBounds_toArray, hm] at this
  exact this

set_option maxRecDepth 100000 in
set_option maxHeartbeats 4000000 in
theorem over_any (h : Mh) (w0 w : World) (m : Hx.Ms) (sv : Value) (hs : Stat h w0) (hm : Mem h w0 w m sv (stsCells m.sts)) (hk : m.k < m.sts.length) (hn : MN m) :
    Calls Tryz.prog 84 #[.pointer (some ⟨h.b, 0, none⟩)] w fun e w' => e = .returned (.bool (Hx.overM h.takes m)) ∧ ∃ n, w' = w.drewN n := by
  have hb3 : w.cell? ⟨h.b, 3, none⟩ = some h.kv := blk_cell hm.blk 3
  have hb4 : w.cell? ⟨h.b, 4, none⟩ = some (.int .i64 (m.time : Int)) := blk_cell hm.blk 4
  have hb5 : w.cell? ⟨h.b, 5, none⟩ = some (.int .i64 (m.k : Int)) := blk_cell hm.blk 5
  have hb7 : w.cell? ⟨h.b, 7, none⟩ = some sv := blk_cell hm.blk 7
  obtain ⟨g, cap, esv, hg1, hg2⟩ := own_pos hm.row (by omega)
  obtain ⟨p, hp⟩ : ∃ p, m.sts[m.k]? = some p := ⟨_, List.getElem?_eq_getElem hk⟩
  have hbeg : Hx.beganM m = p.1 := by rw [Hx.beganM, List.getD_eq_getElem?_getD, hp]; rfl
  have hp1 := hn.sts p (List.mem_of_getElem? hp)
  have htm := hn.time
  have hlen := hn.len
  rw [esv] at hb7
  have cp : w.cell? ⟨g, m.k * 3, none⟩ = some (.int .i64 (p.1 : Int)) := by
    have hrow := hm.row
    rw [esv] at hrow
    rw [hrow.cellAt (m.k * 3) (by omega)]
    have := stsCells_at m.sts m.k p hp 0 (by omega)
    rw [Nat.add_zero] at this
    rw [this]; rfl
  have hkl := hs.kl
  have hkI : (m.k : Int) < (m.sts.length : Int) := by omega
  obtain ⟨ak, capk, ek⟩ := own_form hs.k
  rw [ek] at hb3
  by_cases h1 : m.k < h.takes.length
  · obtain ⟨tk, htk⟩ : ∃ tk, h.takes[m.k]? = some tk := ⟨_, List.getElem?_eq_getElem h1⟩
    have htk1 := hs.kn tk (List.mem_of_getElem? htk)
    obtain ⟨gk, capk2, ek2, _, _⟩ := own_pos (hm.tk hs) (by omega)
    have ck : w.cell? ⟨gk, m.k, none⟩ = some (.int .i64 (tk : Int)) := by
      have hrow := hm.tk hs
      rw [ek2] at hrow
      rw [hrow.cellAt m.k (by omega)]
      exact ints_at _ _ _ (nats_at _ _ _ htk)
    rw [ek] at ek2
    cases ek2
    have HE : Hid (Hx.overM h.takes m = decide (p.1 + tk ≤ m.time)) := by
      show _ = _
      rw [Hx.overM, hbeg, List.getD_eq_getElem?_getD, htk]
      simp [h1]
    have h1I : ¬ (h.takes.length : Int) ≤ (m.k : Int) := by omega
    have h1J : (m.k : Int) < (h.takes.length : Int) := by omega
    clear hm hs hn hp hbeg htk esv ek h1
    go_enter Tryz.func84, Tryz.ntmps84
    go_wp2_with fail
    go_quiet (fail)
    go_wp2_with fail
    go_quiet (fail)
    go_wp2_with fail
    go_returns
    exact ⟨by rw [unhide HE]; simp; omega, _, World.drewN_drewN ..⟩
  · have HE : Hid (Hx.overM h.takes m = false) := by show _ = _; simp [Hx.overM, h1]
    have h1I : (h.takes.length : Int) ≤ (m.k : Int) := by omega
    clear hm hs hn hp hbeg esv ek h1
    go_enter Tryz.func84, Tryz.ntmps84
    go_wp2_with fail
    go_quiet (fail)
    go_wp2_with fail
    go_returns
    exact ⟨by rw [unhide HE]; rfl, _, rfl⟩

end Go.Proofs.YtppcnlkhdgmaiaaGreatDoor
