/- What the document's Times does: the table of all pairs. -/
import Derived.Test.YtppcnlkhdgmaiaaDoorCRrB
import Derived.Test.YtppcnlkhdgmaiaaDoorCRrC
import Derived.Test.YtppcnlkhdgmaiaaDoorCRmB
import Derived.Deep.RegionHeld3
namespace Go.Proofs.YtppcnlkhdgmaiaaDoor
open Go.RowKit

def Hx.no : Int := -1099511627776
/-- The table as it is made. -/
def Hx.M0 : Nat → Nat → Int := fun a b => if b = a then 0 else Hx.no
/-- The beginning is ahead of the first m. -/
def Hx.M1 (n m : Nat) : Nat → Nat → Int := fun a b => if a = n ∧ b < m then 0 else Hx.M0 a b
theorem Hx.M1_zero (n : Nat) : Hx.M1 n 0 = Hx.M0 := by
  funext a b
  unfold M1
  rw [if_neg (by omega)]
theorem Hx.M1_step (n m : Nat) : Hx.updM (Hx.M1 n m) n m 0 = Hx.M1 n (m + 1) := by
  funext a b
  unfold updM M1
  by_cases e1 : a = n
  · by_cases e2 : b = m
    · rw [if_pos ⟨e1, e2⟩, if_pos ⟨e1, by omega⟩]
    · rw [if_neg (fun h => e2 h.2)]
      by_cases e3 : b < m
      · rw [if_pos ⟨e1, e3⟩, if_pos ⟨e1, by omega⟩]
      · rw [if_neg (fun h => e3 h.2), if_neg (fun h => by omega)]
  · rw [if_neg (fun h => e1 h.1), if_neg (fun h => e1 h.1), if_neg (fun h => e1 h.1)]

def Hx.hiAt (L : List Hx.Lst) (i : Nat) : Nat := match L[i]? with | some y => y.x.hi | none => 0
/-- The order's bounds, the first so many. -/
def Hx.chM (J : Nat) (L : List Hx.Lst) (o : List Nat) (M : Nat → Nat → Int) : Nat → Nat → Nat → Int
  | 0 => M
  | q + 1 => Hx.updM (Hx.chM J L o M q) (o.getD q 0) (o.getD (q + 1) 0) ((J : Int) + Hx.hiAt L (o.getD q 0))
/-- A bound that is not below what stands there. -/
def Hx.maxM (M : Nat → Nat → Int) (i j : Nat) (v : Int) : Nat → Nat → Int := if M i j < v then Hx.updM M i j v else M
/-- The bounds of a rest that ends with step i. -/
def Hx.restM (J : Nat) (L : List Hx.Lst) (M : Nat → Nat → Int) (i : Nat) : Nat → Nat → Int :=
  match L[i]?, L[i - 1]? with
  | some x, some a => if x.x.rest then Hx.maxM (Hx.maxM M (i - 1) i ((J : Int) + a.x.hi + x.x.mn)) i (i - 1) ((J : Int) - a.x.lo - x.x.mx) else M
  | _, _ => M
/-- The bounds of the rests that end with steps 1 .. q. -/
def Hx.rsM (J : Nat) (L : List Hx.Lst) (M : Nat → Nat → Int) : Nat → Nat → Nat → Int
  | 0 => M
  | q + 1 => Hx.restM J L (Hx.rsM J L M q) (q + 1)
/-- The table of all pairs. -/
def Hx.tabM (J : Nat) (L : List Hx.Lst) (o : List Nat) : Nat → Nat → Int := Hx.rsM J L (Hx.chM J L o (Hx.M1 L.length L.length) (L.length - 1)) (L.length - 1)
/-- One more node may be passed. -/
def Hx.relI (M : Nat → Nat → Int) (k a b : Nat) : Int := if Hx.no < M a k ∧ Hx.no < M k b ∧ M a b < M a k + M k b then M a k + M k b else M a b
def Hx.fwI (M : Nat → Nat → Int) : Nat → Nat → Nat → Int
  | 0 => M
  | k + 1 => Hx.relI (Hx.fwI M k) k
theorem Hx.relI_row {M : Nat → Nat → Int} {k : Nat} (h : M k k = 0) (b : Nat) : Hx.relI M k k b = M k b := by
  unfold relI
  rw [h]
  split
  · omega
  · rfl
theorem Hx.relI_col {M : Nat → Nat → Int} {k : Nat} (h : M k k = 0) (a : Nat) : Hx.relI M k a k = M a k := by
  unfold relI
  rw [h]
  split
  · omega
  · rfl
theorem Hx.relI_ge (M : Nat → Nat → Int) (k a b : Nat) : M a b ≤ Hx.relI M k a b := by
  unfold relI
  split <;> omega
theorem Hx.relI_bd {M : Nat → Nat → Int} {B : Int} (hB : 0 ≤ B) (h : ∀ a b, Hx.no ≤ M a b ∧ M a b ≤ B) (k a b : Nat) : Hx.no ≤ Hx.relI M k a b ∧ Hx.relI M k a b ≤ 2 * B := by
  have h1 := h a b
  have h2 := h a k
  have h3 := h k b
  unfold relI
  split <;> omega
theorem Hx.fwI_bd {M : Nat → Nat → Int} (h : ∀ a b, Hx.no ≤ M a b ∧ M a b ≤ 4000) : ∀ k a b, Hx.no ≤ Hx.fwI M k a b ∧ Hx.fwI M k a b ≤ 4000 * 2 ^ k
  | 0, a, b => by simpa [fwI] using h a b
  | k + 1, a, b => by
    have := relI_bd (B := 4000 * 2 ^ k) (by have : (0 : Int) < 2 ^ k := Int.pow_pos (by omega); omega) (fwI_bd h k) k a b
    rw [fwI, Int.pow_succ]
    omega
theorem Hx.fwI_ge (M : Nat → Nat → Int) : ∀ k a b, M a b ≤ Hx.fwI M k a b
  | 0, _, _ => Int.le_refl _
  | k + 1, a, b => Int.le_trans (fwI_ge M k a b) (relI_ge _ _ _ _)
/-- A round half done. -/
def Hx.mixI (M : Nat → Nat → Int) (k i j : Nat) : Nat → Nat → Int := fun a b => if a < i ∨ (a = i ∧ b < j) then Hx.relI M k a b else M a b
theorem Hx.mixI_start (M : Nat → Nat → Int) (k : Nat) : Hx.mixI M k 0 0 = M := by
  funext a b
  unfold mixI
  rw [if_neg (by omega)]
theorem Hx.mixI_col {M : Nat → Nat → Int} {k : Nat} (h : M k k = 0) (i j a : Nat) : Hx.mixI M k i j a k = M a k := by
  unfold mixI
  rw [relI_col h]
  split <;> rfl
theorem Hx.mixI_row {M : Nat → Nat → Int} {k : Nat} (h : M k k = 0) (i j b : Nat) : Hx.mixI M k i j k b = M k b := by
  unfold mixI
  rw [relI_row h]
  split <;> rfl
theorem Hx.mixI_here (M : Nat → Nat → Int) (k i j : Nat) : Hx.mixI M k i j i j = M i j := by
  unfold mixI
  rw [if_neg (by omega)]
theorem Hx.mixI_step (M : Nat → Nat → Int) (k i j : Nat) : Hx.updM (Hx.mixI M k i j) i j (Hx.relI M k i j) = Hx.mixI M k i (j + 1) := by
  funext a b
  unfold updM mixI
  by_cases e : a = i ∧ b = j
  · obtain ⟨rfl, rfl⟩ := e
    rw [if_pos ⟨rfl, rfl⟩, if_pos (Or.inr ⟨rfl, by omega⟩)]
  · rw [if_neg e]
    by_cases c : a < i ∨ (a = i ∧ b < j)
    · rw [if_pos c, if_pos (by omega)]
    · rw [if_neg c, if_neg (by omega)]
theorem Hx.mixI_same {M : Nat → Nat → Int} {k i j : Nat} (h : Hx.relI M k i j = M i j) : Hx.mixI M k i j = Hx.mixI M k i (j + 1) := by
  funext a b
  unfold mixI
  by_cases e : a = i ∧ b = j
  · obtain ⟨rfl, rfl⟩ := e
    rw [if_neg (by omega), if_pos (Or.inr ⟨rfl, by omega⟩), h]
  · by_cases c : a < i ∨ (a = i ∧ b < j)
    · rw [if_pos c, if_pos (by omega)]
    · rw [if_neg c, if_neg (by omega)]

theorem ord_at {w : World} {gg n c : Nat} {o : List Nat} (h : w.ownsRow 0 3 1 (.slice (some ⟨gg, 0, none⟩) n c) n (ints (nats o))) (hn : n = o.length) {i : Nat} (hi : i < n) : w.cell? ⟨gg, i, none⟩ = some (.int .i64 ((o.getD i 0 : Nat) : Int)) := by
  rw [h.cellAt i (by omega)]
  subst hn
  simp [ints, nats, hi]

theorem cSo {w : World} {b i j : Nat} {v x : Value} (hne : i ≠ j) (h : w.cell? ⟨b, i, none⟩ = some v) : (w.setCell ⟨b, j, none⟩ x).cell? ⟨b, i, none⟩ = some v := by
  have hne' : (⟨b, j, none⟩ : Addr) ≠ ⟨b, i, none⟩ := by
    intro e
    exact hne (by simpa using (congrArg Addr.off e).symm)
  have e : (w.setCell ⟨b, j, none⟩ x).cell? ⟨b, i, none⟩ = w.cell? ⟨b, i, none⟩ := by
    apply World.cell?_setCell_other
    exact hne'
  rw [e]
  exact h

theorem belA' {base : Nat} {w W : World} (o : Obj) (h : Below base w W) (hb : base ≤ W.heap.size) : Below base w (W.alloc o) := h.alloc hb o

/-- What Times answers. -/
def TimesRes (J : Nat) (L : List Hx.Lst) (o : List Nat) (w : World) (e : Ending) (w' : World) : Prop :=
  Below w.heap.size w w' ∧
    (((∃ k i, k < L.length + 1 ∧ i < L.length + 1 ∧ 0 < Hx.fwI (Hx.tabM J L o) (k + 1) i i) ∧ e = .returned (.tuple #[.slice none 0 0, .bool false])) ∨
     ((∀ k i, k < L.length + 1 → i < L.length + 1 → Hx.fwI (Hx.tabM J L o) (k + 1) i i ≤ 0) ∧ ∃ gt, e = .returned (.tuple #[.slice (some ⟨gt, 0, none⟩) L.length (L.length + 1), .bool true]) ∧ gt < w'.heap.size ∧
       ∀ j, j < L.length → w'.cell? ⟨gt, j, none⟩ = some (.int .i64 (Hx.fwI (Hx.tabM J L o) (L.length + 1) L.length j))))

end Go.Proofs.YtppcnlkhdgmaiaaDoor
