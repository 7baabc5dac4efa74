/- What the document's test of a list of steps does: fits. -/
import Derived.Test.YtppcnlkhdgmaiabGreatDoorCRfD
import Derived.Test.YtppcnlkhdgmaiabGreatDoorCRfP
import Derived.BigRegion
namespace Go.Proofs.YtppcnlkhdgmaiabGreatDoor
open Go.RowKit

namespace Hx
/-- Does a rest begin behind the step at place i? -/
def restAfter (L : List Lst) (i : Nat) : Bool := match L[i + 1]? with | some y => y.x.rest | none => false
/-- One step more of a list that fits so far: the rests under way, the plates' next numbers. -/
def fitStep (K : Nat) (L : List Lst) (r : Int) (nx : Nat → Nat) (i : Nat) : Option (Int × (Nat → Nat)) :=
  match L[i]? with
  | none => none
  | some y =>
    if y.no = nx y.pl then
      if (K : Int) < (r - (if y.x.rest then 1 else 0)) + (if restAfter L i then 1 else 0) then none
      else some ((r - (if y.x.rest then 1 else 0)) + (if restAfter L i then 1 else 0), fun p => if p = y.pl then nx p + 1 else nx p)
    else none
def fitsF (K : Nat) (L : List Lst) : List Nat → Int → (Nat → Nat) → Bool
  | [], _, _ => true
  | i :: l, r, nx =>
    match fitStep K L r nx i with
    | none => false
    | some st => fitsF K L l st.1 st.2
theorem fitsF_drop {K : Nat} {L : List Lst} {l : List Nat} {k i : Nat} {r : Int} {nx : Nat → Nat} (h : l[k]? = some i) :
    fitsF K L (l.drop k) r nx = match fitStep K L r nx i with
      | none => false
      | some st => fitsF K L (l.drop (k + 1)) st.1 st.2 := by
  have hk : k < l.length := by
    by_cases e : k < l.length
    · exact e
    · rw [List.getElem?_eq_none (by omega)] at h; cases h
  have hi : l[k] = i := by rw [List.getElem?_eq_getElem hk] at h; exact Option.some.inj h
  rw [List.drop_eq_getElem_cons hk, hi]
  rfl
end Hx

theorem grown_drew (w : World) (row : Option Nat) : w.grownBy w.drew row := ⟨rfl, rfl, rfl, Nat.le_refl _, fun _ _ _ => rfl⟩
def nats (l : List Nat) : List Int := l.map (fun (n : Nat) => (n : Int))
theorem nats_len (l : List Nat) : (nats l).length = l.length := by simp [nats]
theorem nats_at (l : List Nat) (k i : Nat) (h : l[k]? = some i) : (nats l)[k]? = some (i : Int) := by simp [nats, h]

/-- A block of 26 numbers. -/
def A26 (w : World) (b : Nat) (f : Nat → Nat) : Prop := ∃ a : Array Value, w.heap[b]? = some (.cells a 131 (0, 0)) ∧ a.size = 26 ∧ ∀ i, i < 26 → a[i]? = some (.int .i64 (f i : Int))
theorem A26.cell {w : World} {b : Nat} {f : Nat → Nat} (h : A26 w b f) {i : Nat} (hi : i < 26) : w.cell? ⟨b, i, none⟩ = some (.int .i64 (f i : Int)) := by
  obtain ⟨a, h1, _, h2⟩ := h
  rw [blk_cell h1]; exact h2 i hi
theorem A26.free {w : World} {b : Nat} {f : Nat → Nat} (h : A26 w b f) (i : Nat) : w.frozen? ⟨b, i, none⟩ = false := by
  obtain ⟨a, h1, _⟩ := h
  exact blk_free h1 i
theorem A26.lt {w : World} {b : Nat} {f : Nat → Nat} (h : A26 w b f) : b < w.heap.size := by
  obtain ⟨a, h1, _⟩ := h
  exact lt_of_block h1
theorem A26.kept {w w' : World} {b : Nat} {f : Nat → Nat} {row : Option Nat} (h : A26 w b f) (hg : w.grownBy w' row) (hne : some b ≠ row) : A26 w' b f := by
  obtain ⟨a, h1, h2⟩ := h
  exact ⟨a, blk_kept h1 hg hne, h2⟩
theorem A26.set {w : World} {b : Nat} {f : Nat → Nat} (h : A26 w b f) {i : Nat} (hi : i < 26) (n : Nat) : A26 (w.setCell ⟨b, i, none⟩ (.int .i64 (n : Int))) b (fun p => if p = i then n else f p) := by
  obtain ⟨a, h1, h2, h3⟩ := h
  refine ⟨a.setIfInBounds i (.int .i64 (n : Int)), blk_set h1 _ _, by simp [h2], fun j hj => ?_⟩
  by_cases e : j = i
  · subst e; simp [h2, hi]
  · rw [Array.getElem?_setIfInBounds_ne (by omega), h3 j hj]; simp [e]

theorem zero26 (i : Nat) (hi : i < 26) : (#[.int .i64 0, .int .i64 0, .int .i64 0, .int .i64 0, .int .i64 0, .int .i64 0, .int .i64 0, .int .i64 0, .int .i64 0, .int .i64 0, .int .i64 0, .int .i64 0, .int .i64 0, .int .i64 0, .int .i64 0, .int .i64 0, .int .i64 0, .int .i64 0, .int .i64 0, .int .i64 0, .int .i64 0, .int .i64 0, .int .i64 0, .int .i64 0, .int .i64 0, .int .i64 0] : Array Value)[i]? = some (.int .i64 ((0 : Nat) : Int)) := by
  have e : (#[.int .i64 0, .int .i64 0, .int .i64 0, .int .i64 0, .int .i64 0, .int .i64 0, .int .i64 0, .int .i64 0, .int .i64 0, .int .i64 0, .int .i64 0, .int .i64 0, .int .i64 0, .int .i64 0, .int .i64 0, .int .i64 0, .int .i64 0, .int .i64 0, .int .i64 0, .int .i64 0, .int .i64 0, .int .i64 0, .int .i64 0, .int .i64 0, .int .i64 0, .int .i64 0] : Array Value) = (List.replicate 26 (Value.int .i64 0)).toArray := rfl
  rw [e, List.getElem?_toArray, List.getElem?_replicate, if_pos hi]; rfl
theorem A26.init (w : World) : A26 (w.alloc (.cells #[.int .i64 0, .int .i64 0, .int .i64 0, .int .i64 0, .int .i64 0, .int .i64 0, .int .i64 0, .int .i64 0, .int .i64 0, .int .i64 0, .int .i64 0, .int .i64 0, .int .i64 0, .int .i64 0, .int .i64 0, .int .i64 0, .int .i64 0, .int .i64 0, .int .i64 0, .int .i64 0, .int .i64 0, .int .i64 0, .int .i64 0, .int .i64 0, .int .i64 0, .int .i64 0] 131)) w.heap.size (fun _ => 0) := ⟨_, blk_new w _ _, rfl, zero26⟩

/-- What is known of a plan's steps: they lie in one row, their plates are letters. -/
structure Stps (w : World) (sv : Value) (L : List Hx.Lst) : Prop where
  ow : w.ownsRow 0 53 10 sv L.length (lstsCells L)
  pl : ∀ y ∈ L, y.pl < 26
  pos : 0 < L.length
  le : L.length ≤ 1000

set_option maxRecDepth 100000 in
set_option maxHeartbeats 4000000 in
theorem fits_any (J K D : Nat) (pl : Int) (sv lv : Value) (L : List Hx.Lst) (l : List Nat) (w : World) (hS : Stps w sv L) (hl : w.ownsRow 0 3 1 lv l.length (ints (nats l))) (hll : l.length ≤ 1000) (hin : ∀ i ∈ l, i < L.length) :
    Calls Tryz.prog 54 #[.agg #[.int .i64 (J : Int), .int .i64 (K : Int), .int .i64 (D : Int), sv, .int .i64 pl], lv] w fun e w' => e = .returned (.bool (Hx.fitsF K L l 0 (fun _ => 0))) ∧ Below w.heap.size w w' := by
  obtain ⟨g, cap, rfl, _, hg⟩ := own_pos hS.ow hS.pos
  obtain ⟨ao, capl, rfl⟩ := own_form hl
  have HS := hide hS
  have HL := hide hl
  have HIN := hide hin
  have hLl := hS.le
  clear hS hl hin
  go_enter Tryz.func54, Tryz.ntmps54
  go_wp2_with fail
  go_loopg [5, 7] l.length (fun gk r kk wr => ∃ (k : Nat) (rs : Int) (nx : Nat → Nat), k ≤ l.length ∧ gk = l.length - k ∧ kk = .int .i64 (k : Int) ∧ r = .int .i64 rs ∧ -(k : Int) ≤ rs ∧ rs ≤ (k : Int) ∧ (∀ p, nx p ≤ k) ∧ A26 wr (w.heap.size + 1) nx ∧ wr.heap[w.heap.size]? = some (.cells #[.int .i64 (J : Int), .int .i64 (K : Int), .int .i64 (D : Int), .slice (some ⟨g, 0, none⟩) L.length cap, .int .i64 pl] 49 (0, 0)) ∧ Below w.heap.size w wr ∧ Hx.fitsF K L (l.drop k) rs nx = Hx.fitsF K L l 0 (fun _ => 0))
  case atStart =>
    refine ⟨0, 0, fun _ => 0, Nat.zero_le _, rfl, rfl, rfl, by simp, by simp, by simp, ?_, ?_, ((Below.refl _ _).alloc (Nat.le_refl _) _).alloc (by simp) _, rfl⟩
    · have := A26.init (w.alloc (.cells #[.int .i64 (J : Int), .int .i64 (K : Int), .int .i64 (D : Int), .slice (some ⟨g, 0, none⟩) L.length cap, .int .i64 pl] 49))
      rw [size_alloc_] at this
      exact this
    · exact blk_kept (blk_new w _ _) (grown_alloc _ _ none) (by simp)
  case round =>
    obtain ⟨k, rs, nx, hk, rfl, rfl, rfl, hr1, hr2, hnx, ha, hbox, hbe, hfin⟩ := hrel
    have p1 : wr.cell? ⟨w.heap.size, 1, none⟩ = some (.int .i64 (K : Int)) := blk_cell hbox 1
    have p3 : wr.cell? ⟨w.heap.size, 3, none⟩ = some (.slice (some ⟨g, 0, none⟩) L.length cap) := blk_cell hbox 3
    have hszw := lt_of_block hbox
    have HA := hide ha
    have HBOX := hide hbox
    have HBE := hide hbe
    have HFIN := hide hfin
    have HNX := hide hnx
    clear ha hbox hbe hfin hnx
    by_cases hlt : k < l.length
    · obtain ⟨gl, capl2, el, _, hgl⟩ := own_pos (unhide HL) (by omega)
      cases el
      obtain ⟨i, hi⟩ : ∃ i, l[k]? = some i := ⟨l[k], List.getElem?_eq_getElem hlt⟩
      have hiL : i < L.length := unhide HIN i (List.mem_of_getElem? hi)
      have cl : wr.cell? ⟨gl, k, none⟩ = some (.int .i64 (i : Int)) := by
        rw [(unhide HBE).cell (p := ⟨gl, k, none⟩) hgl, (unhide HL).cellAt k (by omega)]
        exact ints_at _ k _ (nats_at l k i hi)
      have HFD := hide ((Hx.fitsF_drop (K := K) (L := L) (r := rs) (nx := nx) hi).symm.trans (unhide HFIN))
      clear hi HFIN
      obtain ⟨y, hy⟩ : ∃ y, L[i]? = some y := ⟨L[i], List.getElem?_eq_getElem hiL⟩
      have hpl26 : y.pl < 26 := (unhide HS).pl y (List.mem_of_getElem? hy)
      have cx : ∀ t, t < 10 → wr.cell? ⟨g, i * 10 + t, none⟩ = (lstCells y)[t]? := fun t ht => by
        rw [(unhide HBE).cell (p := ⟨g, i * 10 + t, none⟩) hg]; exact own_lst (unhide HS).ow i y hy t ht
      have HY := hide hy
      obtain ⟨ypl, yno, lo, hi, yrest, mn, mx⟩ := y
      simp only at hpl26
      have x0 : wr.cell? ⟨g, i * 10, none⟩ = some (.int .i64 (ypl : Int)) := cx 0 (by omega)
      have x1 : wr.cell? ⟨g, i * 10 + 1, none⟩ = some (.int .i64 (yno : Int)) := cx 1 (by omega)
      have x2 : wr.cell? ⟨g, i * 10 + 2, none⟩ = some (.int .i64 (lo : Int)) := cx 2 (by omega)
      have x3 : wr.cell? ⟨g, i * 10 + 3, none⟩ = some (.int .i64 (hi : Int)) := cx 3 (by omega)
      have x4 : wr.cell? ⟨g, i * 10 + 4, none⟩ = some (.bool yrest) := cx 4 (by omega)
      have x5 : wr.cell? ⟨g, i * 10 + 5, none⟩ = some (.int .i64 (mn : Int)) := cx 5 (by omega)
      have x6 : wr.cell? ⟨g, i * 10 + 6, none⟩ = some (.int .i64 (mx : Int)) := cx 6 (by omega)
      have x7 : wr.cell? ⟨g, i * 10 + 7, none⟩ = some (.int .i64 0) := cx 7 (by omega)
      have x8 : wr.cell? ⟨g, i * 10 + 8, none⟩ = some (.int .i64 0) := cx 8 (by omega)
      have x9 : wr.cell? ⟨g, i * 10 + 9, none⟩ = some (.int .i64 0) := cx 9 (by omega)
      clear hy cx
      have hiI : (i : Int) < (L.length : Int) := by omega
      have hkI : (k : Int) < (l.length : Int) := by omega
      have hg' : g < wr.heap.size := by have := (unhide HBE).size; omega
      have hgl' : gl < wr.heap.size := by have := (unhide HBE).size; omega
      have hN1 : w.heap.size + 1 < wr.heap.size := (unhide HA).lt
      go_wp2_with fail
      go_region
      obtain ⟨wx, hwx⟩ : ∃ wx, wx = (wr.alloc (.cells #[.int .i64 (ypl : Int), .int .i64 (yno : Int), .int .i64 (lo : Int), .int .i64 (hi : Int), .bool yrest, .int .i64 (mn : Int), .int .i64 (mx : Int), .int .i64 0, .int .i64 0, .int .i64 0] 53)).drew := ⟨_, rfl⟩
      have HBEX : Hid (Below w.heap.size w wx) := by show Below _ _ _; rw [hwx]; exact ((unhide HBE).alloc (unhide HBE).size _).drew
      have HAX : Hid (A26 wx (w.heap.size + 1) nx) := by show A26 _ _ _; rw [hwx]; exact (unhide HA).kept (row := none) (grown_trans (grown_alloc wr _ none) (grown_drew _ _)) (by simp)
      have hX : wx.heap[wr.heap.size]? = some (.cells #[.int .i64 (ypl : Int), .int .i64 (yno : Int), .int .i64 (lo : Int), .int .i64 (hi : Int), .bool yrest, .int .i64 (mn : Int), .int .i64 (mx : Int), .int .i64 0, .int .i64 0, .int .i64 0] 53 (0, 0)) := by rw [hwx]; exact blk_new wr _ _
      have HBX : Hid (wx.heap[w.heap.size]? = some (.cells #[.int .i64 (J : Int), .int .i64 (K : Int), .int .i64 (D : Int), .slice (some ⟨g, 0, none⟩) L.length cap, .int .i64 pl] 49 (0, 0))) := by show _ = _; rw [hwx]; exact blk_kept (row := none) (unhide HBOX) (grown_trans (grown_alloc wr _ none) (grown_drew _ _)) (by simp)
      have clx : wx.cell? ⟨gl, k, none⟩ = some (.int .i64 (i : Int)) := by rw [hwx]; exact (grown_alloc wr _ none).cell cl (by simp)
      have hxbN : w.heap.size + 1 ≠ wr.heap.size := by omega
      rw [← hwx]
      clear hwx x0 x1 x2 x3 x4 x5 x6 x7 x8 x9 cl p1 p3 HA HBOX HBE hN1 hg' hgl' hszw
      obtain ⟨xb, hxb⟩ : ∃ xb, xb = wr.heap.size := ⟨_, rfl⟩
      rw [← hxb] at hX hxbN ⊢
      clear hxb
      have z0 : wx.cell? ⟨xb, 0, none⟩ = some (.int .i64 (ypl : Int)) := blk_cell hX 0
      have z1 : wx.cell? ⟨xb, 1, none⟩ = some (.int .i64 (yno : Int)) := blk_cell hX 1
      have z4 : wx.cell? ⟨xb, 4, none⟩ = some (.bool yrest) := blk_cell hX 4
      have HX := hide hX
      clear hX
      have hpI : (ypl : Int) < 26 := by omega
      have na := (unhide HAX).cell hpl26
      have nf := (unhide HAX).free ypl
      by_cases hno : yno = nx ypl
      · have hnoB : ((yno : Int) != (nx ypl : Int)) = false := by simp [hno]
        have HNO := hide hno
        have hnb := unhide HNX ypl
        clear hno
        go_wp2_with fail
        go_quiet (fail)
        go_upto_region 10 with fail
        obtain ⟨w2, hw2⟩ : ∃ w2, w2 = (wx.drewN nq).setCell ⟨w.heap.size + 1, ypl, none⟩ (.int .i64 ((nx ypl : Int) + 1)) := ⟨_, rfl⟩
        have HG2 : Hid (wx.grownBy w2 (some (w.heap.size + 1))) := by show World.grownBy _ _ _; rw [hw2]; exact grown_trans (grown_drewN _ _ _) (grown_set _ _ _ _)
        have HA2 : Hid (A26 w2 (w.heap.size + 1) (fun p => if p = ypl then nx ypl + 1 else nx p)) := by
          show A26 _ _ _
          rw [hw2]
          exact A26.set (w := wx.drewN nq) (unhide HAX) hpl26 (nx ypl + 1)
        rw [← hw2]
        clear hw2 z0 z1 na nf HAX
        have HBE2 := hide ((unhide HBEX).grown (unhide HG2) (unhide HBEX).size (fun j e => by cases e; omega))
        have HBX2 := hide (blk_kept (unhide HBX) (unhide HG2) (by simp))
        have z4' : w2.cell? ⟨xb, 4, none⟩ = some (.bool yrest) := blk_cell (blk_kept (unhide HX) (unhide HG2) (by simp; omega)) 4
        have cl' : w2.cell? ⟨gl, k, none⟩ = some (.int .i64 (i : Int)) := (unhide HG2).cell clx (by simp; omega)
        have p1' : w2.cell? ⟨w.heap.size, 1, none⟩ = some (.int .i64 (K : Int)) := blk_cell (unhide HBX2) 1
        have p3' : w2.cell? ⟨w.heap.size, 3, none⟩ = some (.slice (some ⟨g, 0, none⟩) L.length cap) := blk_cell (unhide HBX2) 3
        clear z4 clx HBX HX HBEX HG2
        have HNX2 : Hid (∀ p, (if p = ypl then nx ypl + 1 else nx p) ≤ k + 1) := fun p => by
          have h1 := unhide HNX p
          have h2 := unhide HNX ypl
          split <;> omega
        obtain ⟨ra, hra, hcase⟩ : ∃ ra, Hx.restAfter L i = ra ∧ ((ra = false ∧ ¬ i + 1 < L.length) ∨ (i + 1 < L.length ∧ w2.cell? ⟨g, (i + 1) * 10 + 4, none⟩ = some (.bool ra))) := by
          refine ⟨_, rfl, ?_⟩
          by_cases h : i + 1 < L.length
          · right
            refine ⟨h, ?_⟩
            have hz : L[i + 1]? = some L[i + 1] := List.getElem?_eq_getElem h
            rw [(unhide HBE2).cell (p := ⟨g, (i + 1) * 10 + 4, none⟩) hg, own_lst (unhide HS).ow (i + 1) _ hz 4 (by omega)]
            simp only [Hx.restAfter, hz]; rfl
          · left
            refine ⟨?_, h⟩
            simp only [Hx.restAfter, List.getElem?_eq_none (show L.length ≤ i + 1 by omega)]
        have HSTEP : Hid (Hx.fitsF K L l 0 (fun _ => 0) = if (K : Int) < (rs - (if yrest then 1 else 0)) + (if ra then 1 else 0) then false else Hx.fitsF K L (l.drop (k + 1)) ((rs - (if yrest then 1 else 0)) + (if ra then 1 else 0)) (fun p => if p = ypl then nx ypl + 1 else nx p)) := by
          have h := unhide HFD
          have hfe : (fun p => if p = ypl then nx p + 1 else nx p) = (fun p => if p = ypl then nx ypl + 1 else nx p) := by
            funext p; split
            · rename_i e; rw [e]
            · rfl
          simp only [Hx.fitStep, unhide HY, if_pos (unhide HNO), hra, hfe] at h
          show _ = _
          by_cases hq : (K : Int) < (rs - (if yrest then 1 else 0)) + (if ra then 1 else 0)
          · simp only [if_pos hq] at h ⊢; exact h.symm
          · simp only [if_neg hq] at h ⊢; exact h.symm
        clear HFD hra
        have hrs1 : -1000 ≤ rs := by omega
        have hrs2 : rs ≤ 1000 := by omega
        rcases hcase with ⟨rfl, hi1⟩ | ⟨hi1, ci1⟩
        · have hi1' : decide ((i : Int) + 1 < (L.length : Int)) = false := by simp; omega
          cases yrest
          · obtain ⟨r2, hr2⟩ : ∃ r2 : Int, r2 = rs := ⟨_, rfl⟩
            have HSTEP2 : Hid (Hx.fitsF K L l 0 (fun _ => 0) = if (K : Int) < r2 then false else Hx.fitsF K L (l.drop (k + 1)) r2 (fun p => if p = ypl then nx ypl + 1 else nx p)) := by
              show _ = _
              rw [hr2]; simpa using unhide HSTEP
            have HR2 := hide hr2
            by_cases hq : (K : Int) < rs
            · have hfin3 : Hid (Hx.fitsF K L l 0 (fun _ => 0) = false) := by show _ = _; rw [unhide HSTEP2, if_pos (by rw [hr2]; exact hq)]
              clear hr2 HSTEP
              go_wp2_with fail
              go_quiet (fail)
              go_wp2_with fail
              go_returns
              exact ⟨by rw [unhide hfin3]; rfl, below_drewN (unhide HBE2) _⟩
            · have hfin3 : Hid (Hx.fitsF K L l 0 (fun _ => 0) = Hx.fitsF K L (l.drop (k + 1)) r2 (fun p => if p = ypl then nx ypl + 1 else nx p)) := by show _ = _; rw [unhide HSTEP2, if_neg (by rw [hr2]; exact hq)]
              clear hr2 HSTEP
              go_wp2_with fail
              go_quiet (fail)
              go_wp2_with fail
              go_roundg (l.length - (k + 1))
              case measure => omega
              case rel =>
                have h2 := unhide HR2
                refine ⟨k + 1, r2, _, by omega, rfl, by go_num, by rw [h2] <;> go_num, by omega, by omega, unhide HNX2, A26.kept (unhide HA2) (grown_drewN _ _ none) (by simp), (unhide HBX2), below_drewN (unhide HBE2) _, (unhide hfin3).symm⟩
          · obtain ⟨r2, hr2⟩ : ∃ r2 : Int, r2 = rs - 1 := ⟨_, rfl⟩
            have HSTEP2 : Hid (Hx.fitsF K L l 0 (fun _ => 0) = if (K : Int) < r2 then false else Hx.fitsF K L (l.drop (k + 1)) r2 (fun p => if p = ypl then nx ypl + 1 else nx p)) := by
              show _ = _
              rw [hr2]; simpa using unhide HSTEP
            have HR2 := hide hr2
            by_cases hq : (K : Int) < rs - 1
            · have hfin3 : Hid (Hx.fitsF K L l 0 (fun _ => 0) = false) := by show _ = _; rw [unhide HSTEP2, if_pos (by rw [hr2]; exact hq)]
              clear hr2 HSTEP
              go_wp2_with fail
              go_quiet (fail)
              go_wp2_with fail
              go_returns
              exact ⟨by rw [unhide hfin3]; rfl, below_drewN (unhide HBE2) _⟩
            · have hfin3 : Hid (Hx.fitsF K L l 0 (fun _ => 0) = Hx.fitsF K L (l.drop (k + 1)) r2 (fun p => if p = ypl then nx ypl + 1 else nx p)) := by show _ = _; rw [unhide HSTEP2, if_neg (by rw [hr2]; exact hq)]
              clear hr2 HSTEP
              go_wp2_with fail
              go_quiet (fail)
              go_wp2_with fail
              go_roundg (l.length - (k + 1))
              case measure => omega
              case rel =>
                have h2 := unhide HR2
                refine ⟨k + 1, r2, _, by omega, rfl, by go_num, by rw [h2] <;> go_num, by omega, by omega, unhide HNX2, A26.kept (unhide HA2) (grown_drewN _ _ none) (by simp), (unhide HBX2), below_drewN (unhide HBE2) _, (unhide hfin3).symm⟩
        · have hi1' : (i : Int) + 1 < (L.length : Int) := by omega
          cases yrest
          · cases ra
            · obtain ⟨r2, hr2⟩ : ∃ r2 : Int, r2 = rs := ⟨_, rfl⟩
              have HSTEP2 : Hid (Hx.fitsF K L l 0 (fun _ => 0) = if (K : Int) < r2 then false else Hx.fitsF K L (l.drop (k + 1)) r2 (fun p => if p = ypl then nx ypl + 1 else nx p)) := by
                show _ = _
                rw [hr2]; simpa using unhide HSTEP
              have HR2 := hide hr2
              by_cases hq : (K : Int) < rs
              · have hfin3 : Hid (Hx.fitsF K L l 0 (fun _ => 0) = false) := by show _ = _; rw [unhide HSTEP2, if_pos (by rw [hr2]; exact hq)]
                clear hr2 HSTEP
                go_wp2_with fail
                go_quiet (fail)
                go_wp2_with fail
                go_returns
                exact ⟨by rw [unhide hfin3]; rfl, below_drewN (unhide HBE2) _⟩
              · have hfin3 : Hid (Hx.fitsF K L l 0 (fun _ => 0) = Hx.fitsF K L (l.drop (k + 1)) r2 (fun p => if p = ypl then nx ypl + 1 else nx p)) := by show _ = _; rw [unhide HSTEP2, if_neg (by rw [hr2]; exact hq)]
                clear hr2 HSTEP
                go_wp2_with fail
                go_quiet (fail)
                go_wp2_with fail
                go_roundg (l.length - (k + 1))
                case measure => omega
                case rel =>
                  have h2 := unhide HR2
                  refine ⟨k + 1, r2, _, by omega, rfl, by go_num, by rw [h2] <;> go_num, by omega, by omega, unhide HNX2, A26.kept (unhide HA2) (grown_drewN _ _ none) (by simp), (unhide HBX2), below_drewN (unhide HBE2) _, (unhide hfin3).symm⟩
            · obtain ⟨r2, hr2⟩ : ∃ r2 : Int, r2 = rs + 1 := ⟨_, rfl⟩
              have HSTEP2 : Hid (Hx.fitsF K L l 0 (fun _ => 0) = if (K : Int) < r2 then false else Hx.fitsF K L (l.drop (k + 1)) r2 (fun p => if p = ypl then nx ypl + 1 else nx p)) := by
                show _ = _
                rw [hr2]; simpa using unhide HSTEP
              have HR2 := hide hr2
              by_cases hq : (K : Int) < rs + 1
              · have hfin3 : Hid (Hx.fitsF K L l 0 (fun _ => 0) = false) := by show _ = _; rw [unhide HSTEP2, if_pos (by rw [hr2]; exact hq)]
                clear hr2 HSTEP
                go_wp2_with fail
                go_quiet (fail)
                go_wp2_with fail
                go_returns
                exact ⟨by rw [unhide hfin3]; rfl, below_drewN (unhide HBE2) _⟩
              · have hfin3 : Hid (Hx.fitsF K L l 0 (fun _ => 0) = Hx.fitsF K L (l.drop (k + 1)) r2 (fun p => if p = ypl then nx ypl + 1 else nx p)) := by show _ = _; rw [unhide HSTEP2, if_neg (by rw [hr2]; exact hq)]
                clear hr2 HSTEP
                go_wp2_with fail
                go_quiet (fail)
                go_wp2_with fail
                go_roundg (l.length - (k + 1))
                case measure => omega
                case rel =>
                  have h2 := unhide HR2
                  refine ⟨k + 1, r2, _, by omega, rfl, by go_num, by rw [h2] <;> go_num, by omega, by omega, unhide HNX2, A26.kept (unhide HA2) (grown_drewN _ _ none) (by simp), (unhide HBX2), below_drewN (unhide HBE2) _, (unhide hfin3).symm⟩
          · cases ra
            · obtain ⟨r2, hr2⟩ : ∃ r2 : Int, r2 = rs - 1 := ⟨_, rfl⟩
              have HSTEP2 : Hid (Hx.fitsF K L l 0 (fun _ => 0) = if (K : Int) < r2 then false else Hx.fitsF K L (l.drop (k + 1)) r2 (fun p => if p = ypl then nx ypl + 1 else nx p)) := by
                show _ = _
                rw [hr2]; simpa using unhide HSTEP
              have HR2 := hide hr2
              by_cases hq : (K : Int) < rs - 1
              · have hfin3 : Hid (Hx.fitsF K L l 0 (fun _ => 0) = false) := by show _ = _; rw [unhide HSTEP2, if_pos (by rw [hr2]; exact hq)]
                clear hr2 HSTEP
                go_wp2_with fail
                go_quiet (fail)
                go_wp2_with fail
                go_returns
                exact ⟨by rw [unhide hfin3]; rfl, below_drewN (unhide HBE2) _⟩
              · have hfin3 : Hid (Hx.fitsF K L l 0 (fun _ => 0) = Hx.fitsF K L (l.drop (k + 1)) r2 (fun p => if p = ypl then nx ypl + 1 else nx p)) := by show _ = _; rw [unhide HSTEP2, if_neg (by rw [hr2]; exact hq)]
                clear hr2 HSTEP
                go_wp2_with fail
                go_quiet (fail)
                go_wp2_with fail
                go_roundg (l.length - (k + 1))
                case measure => omega
                case rel =>
                  have h2 := unhide HR2
                  refine ⟨k + 1, r2, _, by omega, rfl, by go_num, by rw [h2] <;> go_num, by omega, by omega, unhide HNX2, A26.kept (unhide HA2) (grown_drewN _ _ none) (by simp), (unhide HBX2), below_drewN (unhide HBE2) _, (unhide hfin3).symm⟩
            · obtain ⟨r2, hr2⟩ : ∃ r2 : Int, r2 = rs - 1 + 1 := ⟨_, rfl⟩
              have HSTEP2 : Hid (Hx.fitsF K L l 0 (fun _ => 0) = if (K : Int) < r2 then false else Hx.fitsF K L (l.drop (k + 1)) r2 (fun p => if p = ypl then nx ypl + 1 else nx p)) := by
                show _ = _
                rw [hr2]; simpa using unhide HSTEP
              have HR2 := hide hr2
              by_cases hq : (K : Int) < rs - 1 + 1
              · have hfin3 : Hid (Hx.fitsF K L l 0 (fun _ => 0) = false) := by show _ = _; rw [unhide HSTEP2, if_pos (by rw [hr2]; exact hq)]
                clear hr2 HSTEP
                go_wp2_with fail
                go_quiet (fail)
                go_wp2_with fail
                go_returns
                exact ⟨by rw [unhide hfin3]; rfl, below_drewN (unhide HBE2) _⟩
              · have hfin3 : Hid (Hx.fitsF K L l 0 (fun _ => 0) = Hx.fitsF K L (l.drop (k + 1)) r2 (fun p => if p = ypl then nx ypl + 1 else nx p)) := by show _ = _; rw [unhide HSTEP2, if_neg (by rw [hr2]; exact hq)]
                clear hr2 HSTEP
                go_wp2_with fail
                go_quiet (fail)
                go_wp2_with fail
                go_roundg (l.length - (k + 1))
                case measure => omega
                case rel =>
                  have h2 := unhide HR2
                  refine ⟨k + 1, r2, _, by omega, rfl, by go_num, by rw [h2] <;> go_num, by omega, by omega, unhide HNX2, A26.kept (unhide HA2) (grown_drewN _ _ none) (by simp), (unhide HBX2), below_drewN (unhide HBE2) _, (unhide hfin3).symm⟩
      · have hnoB : ((yno : Int) != (nx ypl : Int)) = true := by simp; omega
        have hfin2 : Hid (Hx.fitsF K L l 0 (fun _ => 0) = false) := by
          have := unhide HFD
          simp only [Hx.fitStep, unhide HY, if_neg hno] at this
          exact this.symm
        clear hno
        go_wp2_with fail
        go_quiet (fail)
        go_wp2_with fail
        go_returns
        exact ⟨by rw [unhide hfin2]; rfl, below_drewN (unhide HBEX) _⟩
    · have hke : k = l.length := by omega
      have HFIN2 : Hid (Hx.fitsF K L l 0 (fun _ => 0) = true) := by
        have := unhide HFIN
        rw [hke, List.drop_length] at this
        exact this.symm
      clear hke
      go_wp2_with fail
      go_returns
      exact ⟨by rw [unhide HFIN2]; rfl, unhide HBE⟩

end Go.Proofs.YtppcnlkhdgmaiabGreatDoor
