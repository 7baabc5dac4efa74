/- A table of numbers in memory: a slice of slices of numbers, its rows apart from one another. -/
import Derived.Test.YtppcnlkhdgmaiabGreatDoorCPlB
import Derived.Test.YtppcnlkhdgmaiabGreatDoorCPlA
namespace Go.Proofs.YtppcnlkhdgmaiabGreatDoor
open Go.RowKit

def Hx.updM (M : Nat → Nat → Int) (i j : Nat) (v : Int) : Nat → Nat → Int := fun a b => if a = i ∧ b = j then v else M a b

/-- The first m rows of a table of N columns. -/
structure Mtx (base N m : Nat) (fv : Value) (g : Nat → Nat) (M : Nat → Nat → Int) (w : World) : Prop where
  far : w.ownsRow base 64 1 fv m ((List.range m).map fun i => .slice (some ⟨g i, 0, none⟩) N N)
  row : ∀ i, i < m → w.ownsRow base 3 1 (.slice (some ⟨g i, 0, none⟩) N N) N (intCells N (M i))
  inj : ∀ i j, i < m → j < m → g i = g j → i = j

theorem Mtx.nil (base N : Nat) (M : Nat → Nat → Int) (w : World) : Mtx base N 0 (.slice none 0 0) (fun _ => 0) M w :=
  ⟨World.ownsRow_nil _ _ _ _, fun _ h => absurd h (Nat.not_lt_zero _), fun _ _ h => absurd h (Nat.not_lt_zero _)⟩
theorem Mtx.below {base N m fv g M w w'} (hb : Below w.heap.size w w') (h : Mtx base N m fv g M w) : Mtx base N m fv g M w' :=
  ⟨own_below h.far hb, fun i hi => own_below (h.row i hi) hb, h.inj⟩
theorem Mtx.drewN {base N m fv g M w} (n : Nat) (h : Mtx base N m fv g M w) : Mtx base N m fv g M (w.drewN n) := h.below (below_drewN (Below.refl _ _) n)
theorem Mtx.alloc {base N m fv g M w} (o : Obj) (h : Mtx base N m fv g M w) : Mtx base N m fv g M (w.alloc o) := h.below ((Below.refl _ _).alloc (Nat.le_refl _) o)
theorem Mtx.same {base N m fv g M M' w} (h : Mtx base N m fv g M w) (he : ∀ a b, a < m → b < N → M a b = M' a b) : Mtx base N m fv g M' w := by
  refine ⟨h.far, fun i hi => ?_, h.inj⟩
  have e : intCells N (M i) = intCells N (M' i) := by
    unfold intCells
    apply List.map_congr_left
    intro b hb
    rw [he i b hi (List.mem_range.1 hb)]
  rw [← e]
  exact h.row i hi
theorem Mtx.cell {base N m fv g M w} (h : Mtx base N m fv g M w) {i j : Nat} (hi : i < m) (hj : j < N) : w.cell? ⟨g i, j, none⟩ = some (.int .i64 (M i j)) := by
  rw [(h.row i hi).cellAt j (by omega)]
  exact intCells_at hj
theorem Mtx.fz {base N m fv g M w} (h : Mtx base N m fv g M w) {i : Nat} (hi : i < m) (j : Nat) : w.frozen? ⟨g i, j, none⟩ = false := (h.row i hi).frozenAt j
theorem Mtx.slot {base N m fb cap g M w} (h : Mtx base N m (.slice (some ⟨fb, 0, none⟩) m cap) g M w) {i : Nat} (hi : i < m) : w.cell? ⟨fb, i, none⟩ = some (.slice (some ⟨g i, 0, none⟩) N N) := by
  rw [h.far.cellAt i (by omega)]
  simp [hi]
theorem Mtx.ge {base N m fv g M w} (h : Mtx base N m fv g M w) {i : Nat} (hi : i < m) : base ≤ g i ∧ g i < w.heap.size := (h.row i hi).lt (g i) rfl
theorem Mtx.ne {base N m fb cap g M w} (h : Mtx base N m (.slice (some ⟨fb, 0, none⟩) m cap) g M w) {i : Nat} (hi : i < m) : fb ≠ g i := by
  have := own_apart h.far (h.row i hi) (by decide)
  intro e
  subst e
  rcases this with h | h
  · cases h
  · exact h rfl
/-- One number is stored. -/
theorem Mtx.put {base N m fv g M w} (h : Mtx base N m fv g M w) {i : Nat} (hi : i < m) (j : Nat) (v : Int) : Mtx base N m fv g (Hx.updM M i j v) (w.setCell ⟨g i, j, none⟩ (.int .i64 v)) := by
  have hg := grown_set w (g i) j (.int .i64 v)
  refine ⟨h.far.kept hg (own_apart h.far (h.row i hi) (by decide)), fun a ha => ?_, h.inj⟩
  by_cases e : a = i
  · subst e
    have h1 := ((h.row a ha).stored j (.int .i64 v)).1
    rw [intCells_set] at h1
    have e2 : Hx.updM M a j v a = Hx.updT (M a) j v := by
      funext b
      simp [Hx.updM, Hx.updT]
    rw [e2]
    exact h1
  · have e2 : Hx.updM M i j v a = M a := by
      funext b
      simp [Hx.updM, e]
    rw [e2]
    exact (h.row a ha).kept hg (Or.inr (fun e3 => e (h.inj a i ha hi (Option.some.inj e3))))
theorem Mtx.grown {base N m fv g M w w'} (hg : w.grownBy w' none) (h : Mtx base N m fv g M w) : Mtx base N m fv g M w' := by
  refine ⟨h.far.kept hg ?_, fun i hi => (h.row i hi).kept hg (Or.inr (by intro e; cases e)), h.inj⟩
  cases fv.ownBlock
  · exact Or.inl rfl
  · exact Or.inr (by intro e; cases e)
/-- A store into a row that is not of the table. -/
theorem Mtx.aside {base N m fv g M w r xs} (h : Mtx base N m fv g M w) (hr : w.ownsRow base 3 1 (.slice (some ⟨r, 0, none⟩) N N) N xs) (hne : ∀ i, i < m → g i ≠ r) (j : Nat) (v : Value) : Mtx base N m fv g M (w.setCell ⟨r, j, none⟩ v) := by
  have hg := grown_set w r j v
  exact ⟨h.far.kept hg (own_apart h.far hr (by decide)), fun i hi => (h.row i hi).kept hg (Or.inr (fun e => hne i hi (Option.some.inj e))), h.inj⟩
/-- One row more. -/
theorem Mtx.push {base N m fv fv' g M w w' r} (h : Mtx base N m fv g M w) (hr : w.ownsRow base 3 1 (.slice (some ⟨r, 0, none⟩) N N) N (intCells N (M m))) (hne : ∀ i, i < m → g i ≠ r)
    (hv : w'.ownsRow base 64 1 fv' (m + 1) (((List.range m).map fun i => .slice (some ⟨g i, 0, none⟩) N N) ++ [.slice (some ⟨r, 0, none⟩) N N])) (hg : w.grownBy w' fv.ownBlock) :
    Mtx base N (m + 1) fv' (fun i => if i = m then r else g i) M w' := by
  refine ⟨?_, fun i hi => ?_, fun i j hi hj e => ?_⟩
  · have e : ((List.range (m + 1)).map fun i => Value.slice (some ⟨if i = m then r else g i, 0, none⟩) N N) = ((List.range m).map fun i => .slice (some ⟨g i, 0, none⟩) N N) ++ [.slice (some ⟨r, 0, none⟩) N N] := by
      rw [List.range_succ, List.map_append]
      congr 1
      · apply List.map_congr_left
        intro i hi
        rw [if_neg (by have := List.mem_range.1 hi; omega)]
      · simp
    rw [e]; exact hv
  · by_cases e : i = m
    · subst e
      simp only [if_true]
      exact hr.kept hg (own_apart hr h.far (by decide))
    · simp only [if_neg e]
      exact (h.row i (by omega)).kept hg (own_apart (h.row i (by omega)) h.far (by decide))
  · by_cases e1 : i = m
    · by_cases e2 : j = m
      · omega
      · rw [if_pos e1, if_neg e2] at e
        exact absurd e.symm (hne j (by omega))
    · by_cases e2 : j = m
      · rw [if_neg e1, if_pos e2] at e
        exact absurd e (hne i (by omega))
      · rw [if_neg e1, if_neg e2] at e
        exact h.inj i j (by omega) (by omega) e

end Go.Proofs.YtppcnlkhdgmaiabGreatDoor
