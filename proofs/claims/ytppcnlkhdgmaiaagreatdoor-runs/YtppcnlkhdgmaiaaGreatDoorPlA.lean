/- What the program's small functions of a turn do: moreResting, turnOf, apart, name. -/
import Derived.Test.YtppcnlkhdgmaiaaGreatDoorRdG
import Derived.Test.YtppcnlkhdgmaiaaGreatDoorPo
import Derived.Laws.BytesArg
namespace Go.Proofs.YtppcnlkhdgmaiaaGreatDoor
open Go.RowKit

def trnCells (t : Hx.Trn) : List Value := [.int .i64 (t.x.lo : Int), .int .i64 (t.x.hi : Int), .bool t.x.rest, .int .i64 (t.x.mn : Int), .int .i64 (t.x.mx : Int), .int .i64 (t.pl : Int), .int .i64 (t.no : Int), .bool t.beg]

set_option maxRecDepth 100000 in
set_option maxHeartbeats 2000000 in
theorem more_any (t : Hx.Trn) (w : World) :
    Calls Tryz.prog 74 #[.agg #[.int .i64 (t.x.lo : Int), .int .i64 (t.x.hi : Int), .bool t.x.rest, .int .i64 (t.x.mn : Int), .int .i64 (t.x.mx : Int), .int .i64 (t.pl : Int), .int .i64 (t.no : Int), .bool t.beg]] w
      fun e w' => e = .returned (.int .i64 (Hx.moreR t)) ∧ w' = w.alloc (.cells #[.int .i64 (t.x.lo : Int), .int .i64 (t.x.hi : Int), .bool t.x.rest, .int .i64 (t.x.mn : Int), .int .i64 (t.x.mx : Int), .int .i64 (t.pl : Int), .int .i64 (t.no : Int), .bool t.beg] 59) := by
  obtain ⟨⟨lo, hi, rest, mn, mx⟩, pl, no, beg⟩ := t
  simp only [Hx.moreR]
  cases rest <;> cases beg <;>
  · go_enter Tryz.func74, Tryz.ntmps74
    go_wp2_with fail
    go_returns
    exact ⟨rfl, rfl⟩

/-- Where a plate's steps lie. -/
theorem Plts.plate {w : World} {base : Nat} {v : Value} {ps : List (List Hx.Stp)} (h : Plts w base v ps) {p : Nat} {q : List Hx.Stp} (hq : ps[p]? = some q) (hne : 0 < q.length) :
    ∃ g cap g2 cap2, v = .slice (some ⟨g, 0, none⟩) ps.length cap ∧ g < w.heap.size ∧ base ≤ g ∧ g2 < w.heap.size ∧ base ≤ g2 ∧ w.cell? ⟨g, p, none⟩ = some (.slice (some ⟨g2, 0, none⟩) q.length cap2) ∧ q.length ≤ 121 ∧
      ∀ (j : Nat) (x : Hx.Stp), q[j]? = some x → ∀ t, t < 5 → w.cell? ⟨g2, j * 5 + t, none⟩ = (stpCells x)[t]? := by
  obtain ⟨vs, hvs, hpp⟩ := h
  have hp := Hx.getElem?_lt hq
  obtain ⟨g, cap, rfl, hb, hg⟩ := own_pos hvs (by omega)
  obtain ⟨u, hu, hou, hq121⟩ := hpp p q hq
  obtain ⟨g2, cap2, rfl, hb2, hg2⟩ := own_pos hou hne
  refine ⟨g, cap, g2, cap2, rfl, hg, hb, hg2, hb2, ?_, hq121, fun j x hx t ht => own_step hou rfl j x hx t ht⟩
  rw [hvs.cellAt p (by omega)]; exact hu

theorem cA {w : World} {p : Addr} {v : Value} (o : Obj) (h : w.cell? p = some v) : (w.alloc o).cell? p = some v := (grown_alloc w o none).cell h (by simp)
theorem cD {w : World} {p : Addr} {v : Value} (h : w.cell? p = some v) : w.drew.cell? p = some v := h

theorem Plts.below_any {n : Nat} {w w' : World} {base : Nat} {v : Value} {ps : List (List Hx.Stp)} (h : Plts w base v ps) (hb : Below n w w') (hn : w.heap.size ≤ n) : Plts w' base v ps := h.below (hb.mono hn)
theorem bA {w : World} {k : Nat} {x : Obj} (o : Obj) (h : w.heap[k]? = some x) : (w.alloc o).heap[k]? = some x := blk_kept h (grown_alloc w o none) (by simp)
theorem bD {w : World} {k : Nat} {x : Obj} (h : w.heap[k]? = some x) : w.drew.heap[k]? = some x := h
theorem bN {w : World} {k : Nat} (a : Array Value) (T : TypeId) (h : k = w.heap.size) : (w.alloc (.cells a T)).heap[k]? = some (.cells a T (0, 0)) := by subst h; exact blk_new w a T
theorem belA {w W : World} (o : Obj) (h : Below w.heap.size w W) : Below w.heap.size w (W.alloc o) := h.alloc h.size o
theorem belD {n : Nat} {w W : World} (h : Below n w W) : Below n w W.drew := h.drew

set_option maxRecDepth 100000 in
set_option maxHeartbeats 2000000 in
theorem turn_exact (J K D : Nat) (v : Value) (base : Nat) (ps : List (List Hx.Stp)) (w : World) (p n : Nat) (t : Hx.Trn) (hps : Plts w base v ps) (ht : Hx.turnAt ps p n = some t) :
    Calls Tryz.prog 47 #[.agg #[.int .i64 (J : Int), .int .i64 (K : Int), .int .i64 (D : Int), v], .int .i64 (p : Int), .int .i64 (n : Int)] w
      fun e w' => e = .returned (.agg #[.int .i64 (t.x.lo : Int), .int .i64 (t.x.hi : Int), .bool t.x.rest, .int .i64 (t.x.mn : Int), .int .i64 (t.x.mx : Int), .int .i64 (t.pl : Int), .int .i64 (t.no : Int), .bool t.beg]) ∧
        w' = (w.alloc (.cells #[.int .i64 (J : Int), .int .i64 (K : Int), .int .i64 (D : Int), v] 44)).alloc (.cells #[.int .i64 (t.x.lo : Int), .int .i64 (t.x.hi : Int), .bool t.x.rest, .int .i64 (t.x.mn : Int), .int .i64 (t.x.mx : Int), .int .i64 (t.pl : Int), .int .i64 (t.no : Int), .bool t.beg] 59) := by
  obtain ⟨q, x, hq, hx, rfl⟩ := Hx.turnAt_some ht
  have hn := Hx.getElem?_lt hx
  have hp := Hx.getElem?_lt hq
  obtain ⟨g, cap, g2, cap2, rfl, hg, _, hg2, _, hc, hq121, hst⟩ := hps.plate hq (by omega)
  have cP : ∀ o1 o2, ((w.alloc o1).alloc o2).cell? ⟨g, p, none⟩ = some (.slice (some ⟨g2, 0, none⟩) q.length cap2) := fun o1 o2 => cA o2 (cA o1 hc)
  have x0 : ∀ o1 o2, ((w.alloc o1).alloc o2).cell? ⟨g2, n * 5, none⟩ = some (.int .i64 (x.lo : Int)) := fun o1 o2 => cA o2 (cA o1 (hst n x hx 0 (by omega)))
  have x1 : ∀ o1 o2, ((w.alloc o1).alloc o2).cell? ⟨g2, n * 5 + 1, none⟩ = some (.int .i64 (x.hi : Int)) := fun o1 o2 => cA o2 (cA o1 (hst n x hx 1 (by omega)))
  have x2 : ∀ o1 o2, ((w.alloc o1).alloc o2).cell? ⟨g2, n * 5 + 2, none⟩ = some (.bool x.rest) := fun o1 o2 => cA o2 (cA o1 (hst n x hx 2 (by omega)))
  have x3 : ∀ o1 o2, ((w.alloc o1).alloc o2).cell? ⟨g2, n * 5 + 3, none⟩ = some (.int .i64 (x.mn : Int)) := fun o1 o2 => cA o2 (cA o1 (hst n x hx 3 (by omega)))
  have x4 : ∀ o1 o2, ((w.alloc o1).alloc o2).cell? ⟨g2, n * 5 + 4, none⟩ = some (.int .i64 (x.mx : Int)) := fun o1 o2 => cA o2 (cA o1 (hst n x hx 4 (by omega)))
  by_cases hm : n + 1 < q.length
  · obtain ⟨y, hy⟩ : ∃ y, q[n + 1]? = some y := ⟨q[n + 1], List.getElem?_eq_getElem hm⟩
    have hbeg : Hx.begB q n = y.rest := by simp [Hx.begB, hy]
    have y2 : ∀ o1 o2, ((w.alloc o1).alloc o2).cell? ⟨g2, (n + 1) * 5 + 2, none⟩ = some (.bool y.rest) := fun o1 o2 => cA o2 (cA o1 (hst (n + 1) y hy 2 (by omega)))
    have hmI : (n : Int) + 1 < (q.length : Int) := by omega
    rw [hbeg]
    clear hbeg hst hx ht hps hq hc hy
    go_enter Tryz.func47, Tryz.ntmps47
    go_wp2_with fail
    refine bodyPost_ret (v := .agg #[.int .i64 (x.lo : Int), .int .i64 (x.hi : Int), .bool x.rest, .int .i64 (x.mn : Int), .int .i64 (x.mx : Int), .int .i64 (p : Int), .int .i64 (n : Int), .bool y.rest]) (by simp [results, Tryz.results47, go_sem]) rfl ?_
    exact ⟨rfl, rfl⟩
  · have hbeg : Hx.begB q n = false := by simp [Hx.begB, List.getElem?_eq_none (show q.length ≤ n + 1 by omega)]
    have hmI : decide ((n : Int) + 1 < (q.length : Int)) = false := by simp; omega
    rw [hbeg]
    clear hbeg hst hx ht hps hq hc
    go_enter Tryz.func47, Tryz.ntmps47
    go_wp2_with fail
    refine bodyPost_ret (v := .agg #[.int .i64 (x.lo : Int), .int .i64 (x.hi : Int), .bool x.rest, .int .i64 (x.mn : Int), .int .i64 (x.mx : Int), .int .i64 (p : Int), .int .i64 (n : Int), .bool false]) (by simp [results, Tryz.results47, go_sem]) rfl ?_
    exact ⟨rfl, rfl⟩
theorem turn_any (J K D : Nat) (v : Value) (base : Nat) (ps : List (List Hx.Stp)) (w : World) (p n : Nat) (t : Hx.Trn) (hps : Plts w base v ps) (ht : Hx.turnAt ps p n = some t) :
    Calls Tryz.prog 47 #[.agg #[.int .i64 (J : Int), .int .i64 (K : Int), .int .i64 (D : Int), v], .int .i64 (p : Int), .int .i64 (n : Int)] w
      fun e w' => e = .returned (.agg #[.int .i64 (t.x.lo : Int), .int .i64 (t.x.hi : Int), .bool t.x.rest, .int .i64 (t.x.mn : Int), .int .i64 (t.x.mx : Int), .int .i64 (t.pl : Int), .int .i64 (t.no : Int), .bool t.beg]) ∧ Below w.heap.size w w' :=
  (turn_exact J K D v base ps w p n t hps ht).mono fun e w' h => ⟨h.1, by rw [h.2]; exact belA _ (belA _ (Below.refl _ _))⟩

set_option maxRecDepth 100000 in
set_option maxHeartbeats 2000000 in
theorem apart_any (J : Nat) (x : Hx.Stp) (lo hi : Nat) (w : World) (hJ : J < 1000) (h1 : x.lo < 1000) (h2 : x.hi < 1000) (h3 : lo < 1000) (h4 : hi < 1000) :
    Calls Tryz.prog 46 #[.int .i64 (J : Int), .agg #[.int .i64 (x.lo : Int), .int .i64 (x.hi : Int), .bool x.rest, .int .i64 (x.mn : Int), .int .i64 (x.mx : Int)], .agg #[.int .i64 (lo : Int), .int .i64 (hi : Int)]] w
      fun e w' => e = .returned (.agg #[.int .i64 ((J : Int) + x.hi + lo), .int .i64 ((x.lo : Int) + hi - J)]) ∧ w' = (((w.alloc (.cells #[.int .i64 (x.lo : Int), .int .i64 (x.hi : Int), .bool x.rest, .int .i64 (x.mn : Int), .int .i64 (x.mx : Int)] 57)).alloc (.cells #[.int .i64 (lo : Int), .int .i64 (hi : Int)] 55)).alloc (.cells #[.int .i64 ((J : Int) + x.hi + lo), .int .i64 ((x.lo : Int) + hi - J)] 55)) := by
  obtain ⟨xlo, xhi, rest, mn, mx⟩ := x
  simp only at h1 h2 ⊢
  go_enter Tryz.func46, Tryz.ntmps46
  go_wp2_with fail
  refine bodyPost_ret (v := .agg #[.int .i64 ((J : Int) + xhi + lo), .int .i64 ((xlo : Int) + hi - J)]) (by simp [results, Tryz.results46, go_sem]) rfl ?_
  exact ⟨rfl, rfl⟩

/-- The name of a step: its letter and its digit. -/
def Hx.nameB (pl no : Nat) : ByteArray := ⟨#[UInt8.ofNat (97 + pl), UInt8.ofNat (48 + no)]⟩

set_option maxRecDepth 100000 in
set_option maxHeartbeats 2000000 in
theorem tname_any (t : Hx.Trn) (w : World) (hp : t.pl < 26) (hn : t.no < 10) :
    Calls Tryz.prog 21 #[.agg #[.int .i64 (t.x.lo : Int), .int .i64 (t.x.hi : Int), .bool t.x.rest, .int .i64 (t.x.mn : Int), .int .i64 (t.x.mx : Int), .int .i64 (t.pl : Int), .int .i64 (t.no : Int), .bool t.beg]] w
      fun e w' => e = .returned (.string (Hx.nameB t.pl t.no)) ∧ Below w.heap.size w w' := by
  obtain ⟨⟨lo, hi, rest, mn, mx⟩, pl, no, beg⟩ := t
  simp only at hp hn ⊢
  have hstr : strOfNums [97 + (pl : Int), 48 + (no : Int)] = Hx.nameB pl no := by
    have e1 : (97 + (pl : Int)).toNat = 97 + pl := by omega
    have e2 : (48 + (no : Int)).toNat = 48 + no := by omega
    simp [strOfNums, Hx.nameB, e1, e2]
  have hconv : (convert 115 9 (.slice (some ⟨w.heap.size + 1, 0, none⟩) 2 2)).run Tryz.prog ((w.alloc (.cells #[.int .i64 (lo : Int), .int .i64 (hi : Int), .bool rest, .int .i64 (mn : Int), .int .i64 (mx : Int), .int .i64 (pl : Int), .int .i64 (no : Int), .bool beg] 59)).alloc (.cells #[.int .u8 (97 + (pl : Int)), .int .u8 (48 + (no : Int))] 5)) = .ok (.string (Hx.nameB pl no)) ((w.alloc (.cells #[.int .i64 (lo : Int), .int .i64 (hi : Int), .bool rest, .int .i64 (mn : Int), .int .i64 (mx : Int), .int .i64 (pl : Int), .int .i64 (no : Int), .bool beg] 59)).alloc (.cells #[.int .u8 (97 + (pl : Int)), .int .u8 (48 + (no : Int))] 5)) := by
    rw [← hstr]
    have hb := blk_new (w.alloc (.cells #[.int .i64 (lo : Int), .int .i64 (hi : Int), .bool rest, .int .i64 (mn : Int), .int .i64 (mx : Int), .int .i64 (pl : Int), .int .i64 (no : Int), .bool beg] 59)) #[.int .u8 (97 + (pl : Int)), .int .u8 (48 + (no : Int))] 5
    rw [size_alloc_] at hb
    refine run_convert_bytes_arg _ 115 5 Tryz.underlying115 Tryz.underlying5 (w.heap.size + 1) 0 2 2 [97 + (pl : Int), 48 + (no : Int)] rfl (fun i hi => ?_) 9 Tryz.underlying9
    rw [blk_cell hb]
    match i, hi with
    | 0, _ => rfl
    | 1, _ => rfl
  clear hstr
  have HBE := hide (((Below.refl w.heap.size w).alloc (Nat.le_refl _) (.cells #[.int .i64 (lo : Int), .int .i64 (hi : Int), .bool rest, .int .i64 (mn : Int), .int .i64 (mx : Int), .int .i64 (pl : Int), .int .i64 (no : Int), .bool beg] 59)).alloc (by simp) (.cells #[.int .u8 (97 + (pl : Int)), .int .u8 (48 + (no : Int))] 5))
  go_enter Tryz.func21, Tryz.ntmps21
  go_wp2_with fail
  go_returns
  exact ⟨rfl, unhide HBE⟩

end Go.Proofs.YtppcnlkhdgmaiaaGreatDoor
