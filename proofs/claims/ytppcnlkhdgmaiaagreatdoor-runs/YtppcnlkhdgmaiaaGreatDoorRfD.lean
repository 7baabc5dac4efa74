/- What lies in memory while the document reads a protocol, and what is still to be read. -/
import Derived.Test.YtppcnlkhdgmaiaaGreatDoorRfC
namespace Go.Proofs.YtppcnlkhdgmaiaaGreatDoor
open Go.RowKit

/-- What lies in memory while the document reads a protocol. -/
structure He (s : ByteArray) (w w' : World) (st : Hx.St) (a : Array Value) : Prop where
  rd : Rd 108 s (w.heap.size + 1) st w'
  lo : w'.heap[w.heap.size + 1 + 1]? = some (.cells a 49 (0, 0))
  re : w'.heap[w.heap.size]? = some (.cells #[.int .i64 0, .int .i64 0, .int .i64 0, .slice none 0 0, .int .i64 0] 49 (0, 0))
  be : Below w.heap.size w w'

theorem He.call {s w w' w'' st st' a} (h : He s w w' st a) (hr : Rd 108 s (w.heap.size + 1) st' w'') (hg : w'.grownBy w'' (some (w.heap.size + 1))) : He s w w'' st' a :=
  ⟨hr, blk_kept h.lo hg (by simp), blk_kept h.re hg (by simp), h.be.grown hg h.be.size (by simp)⟩
theorem He.own {s w w' w'' st a} {row : Option Nat} (h : He s w w' st a) (hg : w'.grownBy w'' row) (hrow : ∀ k, row = some k → w.heap.size + 3 ≤ k) : He s w w'' st a :=
  ⟨h.rd.kept hg (fun e => by have := hrow _ e.symm; omega), blk_kept h.lo hg (fun e => by have := hrow _ e.symm; omega), blk_kept h.re hg (fun e => by have := hrow _ e.symm; omega), h.be.grown hg h.be.size (fun k e => by have := hrow k e; omega)⟩
theorem He.store {s w w' st a} (h : He s w w' st a) (o : Nat) (v : Value) : He s w (w'.setCell ⟨w.heap.size + 1 + 1, o, none⟩ v) st (a.setIfInBounds o v) :=
  ⟨h.rd.set_other (by omega) _ _, blk_set h.lo _ _, blk_set_other h.re (by omega) _ _, h.be.setCell (by show _ ≤ w.heap.size + 1 + 1; omega) _⟩
theorem He.init (s : ByteArray) (w : World) : He s w (((w.alloc (.cells #[.int .i64 0, .int .i64 0, .int .i64 0, .slice none 0 0, .int .i64 0] 49)).alloc (.cells #[.string s, .int .i64 0, .bool false] 108)).alloc (.cells #[.int .i64 0, .int .i64 0, .int .i64 0, .slice none 0 0, .int .i64 0] 49)) ⟨0, false⟩ #[.int .i64 0, .int .i64 0, .int .i64 0, .slice none 0 0, .int .i64 0] := by
  have g1 := (Below.refl w.heap.size w).alloc (Nat.le_refl _) (.cells #[.int .i64 0, .int .i64 0, .int .i64 0, .slice none 0 0, .int .i64 0] 49)
  have b1 := blk_new w #[.int .i64 0, .int .i64 0, .int .i64 0, .slice none 0 0, .int .i64 0] 49
  have s1 := size_alloc_ w (.cells #[.int .i64 0, .int .i64 0, .int .i64 0, .slice none 0 0, .int .i64 0] 49)
  generalize w.alloc (.cells #[.int .i64 0, .int .i64 0, .int .i64 0, .slice none 0 0, .int .i64 0] 49) = w1 at *
  have g2 := g1.alloc (by omega) (.cells #[.string s, .int .i64 0, .bool false] 108)
  have b2 := blk_new w1 #[.string s, .int .i64 0, .bool false] 108
  have s2 := size_alloc_ w1 (.cells #[.string s, .int .i64 0, .bool false] 108)
  have b12 := blk_kept b1 (grown_alloc w1 (.cells #[.string s, .int .i64 0, .bool false] 108) none) (by simp)
  generalize w1.alloc (.cells #[.string s, .int .i64 0, .bool false] 108) = w2 at *
  have g3 := g2.alloc (by omega) (.cells #[.int .i64 0, .int .i64 0, .int .i64 0, .slice none 0 0, .int .i64 0] 49)
  have b3 := blk_new w2 #[.int .i64 0, .int .i64 0, .int .i64 0, .slice none 0 0, .int .i64 0] 49
  have b23 := blk_kept b2 (grown_alloc w2 (.cells #[.int .i64 0, .int .i64 0, .int .i64 0, .slice none 0 0, .int .i64 0] 49) none) (by simp)
  have b13 := blk_kept b12 (grown_alloc w2 (.cells #[.int .i64 0, .int .i64 0, .int .i64 0, .slice none 0 0, .int .i64 0] 49) none) (by simp)
  rw [s2, s1] at b3
  rw [s1] at b23
  exact ⟨b23, b3, b13, g3⟩

/-- The same with a step under way in block xb. -/
structure In (s : ByteArray) (w : World) (xb : Nat) (w' : World) (st : Hx.St) (a xa : Array Value) (v : Value) (l : List Hx.Lst) : Prop where
  he : He s w w' st a
  xx : w'.heap[xb]? = some (.cells xa 53 (0, 0))
  ow : w'.ownsRow (w.heap.size + 3) 53 10 v l.length (lstsCells l)
  ap : v.ownBlock ≠ some xb
  ge : w.heap.size + 3 ≤ xb

theorem In.call {s w xb w' w'' st st' a xa v l} (h : In s w xb w' st a xa v l) (hr : Rd 108 s (w.heap.size + 1) st' w'') (hg : w'.grownBy w'' (some (w.heap.size + 1))) : In s w xb w'' st' a xa v l :=
  ⟨h.he.call hr hg, blk_kept h.xx hg (by have := h.ge; simp; omega), h.ow.kept hg (own_ne h.ow (by omega)), h.ap, h.ge⟩
theorem In.setx {s w xb w' st a xa v l} (h : In s w xb w' st a xa v l) (o : Nat) (u : Value) : In s w xb (w'.setCell ⟨xb, o, none⟩ u) st a (xa.setIfInBounds o u) v l :=
  ⟨h.he.own (grown_set w' xb o u) (fun k e => by have := h.ge; simp at e; omega), blk_set h.xx _ _, h.ow.kept (grown_set w' xb o u) (Or.inr h.ap), h.ap, h.ge⟩
theorem In.setp {s w xb w' st a xa v l} (h : In s w xb w' st a xa v l) (o : Nat) (u : Value) : In s w xb (w'.setCell ⟨w.heap.size + 1 + 1, o, none⟩ u) st (a.setIfInBounds o u) xa v l :=
  ⟨h.he.store o u, blk_set_other h.xx (by have := h.ge; omega) _ _, h.ow.kept (grown_set w' _ o u) (own_ne h.ow (by omega)), h.ap, h.ge⟩
theorem In.alloc {s w xb w' st a xa v l} (h : In s w xb w' st a xa v l) (o : Obj) : In s w xb (w'.alloc o) st a xa v l :=
  ⟨h.he.own (grown_alloc w' o none) (by simp), blk_kept h.xx (grown_alloc w' o none) (by simp), h.ow.alloc o, h.ap, h.ge⟩
theorem In.app {s w xb w' w'' st a xa v v' l y} (h : In s w xb w' st a xa v l) (ho : w''.ownsRow (w.heap.size + 3) 53 10 v' (l.length + 1) (lstsCells l ++ lstCells y)) (hg : w'.grownBy w'' v.ownBlock)
    (hv : ∀ k, v'.ownBlock = some k → v.ownBlock = some k ∨ w'.heap.size ≤ k) : In s w xb w'' st a xa v' (l ++ [y]) := by
  refine ⟨h.he.own hg (fun k e => (h.ow.lt k e).1), blk_kept h.xx hg (fun e => h.ap e.symm), ?_, fun e => ?_, h.ge⟩
  · rw [lstsCells_snoc, List.length_append]; exact ho
  · rcases hv xb e with h1 | h1
    · exact h.ap h1
    · have := lt_of_block h.xx; omega

theorem arr10 (a0 a1 a2 a3 a4 a5 a6 a7 a8 a9 b0 b1 b2 b3 b4 b5 b6 b7 b8 b9 : Value) : ((((((((((#[a0, a1, a2, a3, a4, a5, a6, a7, a8, a9].setIfInBounds 0 b0).setIfInBounds 1 b1).setIfInBounds 2 b2).setIfInBounds 3 b3).setIfInBounds 4 b4).setIfInBounds 5 b5).setIfInBounds 6 b6).setIfInBounds 7 b7).setIfInBounds 8 b8).setIfInBounds 9 b9) = #[b0, b1, b2, b3, b4, b5, b6, b7, b8, b9] := by simp
theorem In.set10 {s w xb w' st a v l} {a0 a1 a2 a3 a4 a5 a6 a7 a8 a9 : Value} (h : In s w xb w' st a #[a0, a1, a2, a3, a4, a5, a6, a7, a8, a9] v l) (b0 b1 b2 b3 b4 b5 b6 b7 b8 b9 : Value) :
    In s w xb ((((((((((w'.setCell ⟨xb, 0, none⟩ b0).setCell ⟨xb, 1, none⟩ b1).setCell ⟨xb, 2, none⟩ b2).setCell ⟨xb, 3, none⟩ b3).setCell ⟨xb, 4, none⟩ b4).setCell ⟨xb, 5, none⟩ b5).setCell ⟨xb, 6, none⟩ b6).setCell ⟨xb, 7, none⟩ b7).setCell ⟨xb, 8, none⟩ b8).setCell ⟨xb, 9, none⟩ b9) st a #[b0, b1, b2, b3, b4, b5, b6, b7, b8, b9] v l := by
  have h1 := ((((((((((h.setx 0 b0).setx 1 b1).setx 2 b2).setx 3 b3).setx 4 b4).setx 5 b5).setx 6 b6).setx 7 b7).setx 8 b8).setx 9 b9)
  rw [arr10] at h1
  exact h1

def mO (s : ByteArray) (st : Hx.St) (on : Bool) : Nat := if st.bad = false ∧ on = true then s.size - st.pos + 1 else 0

/-- What is still to be read, at the head of the loop over plates. -/
structure OutOK (s : ByteArray) (st : Hx.St) (on : Bool) (ps : List (List Hx.Stp)) : Prop where
  bad : st.bad = true → (Hx.protF s).1 = st
  go : st.bad = false → on = true → Hx.platesF s st ps = Hx.protF s
  fin : st.bad = false → on = false → (st, ps) = Hx.protF s

/-- What is still to be read, at the head of the loop over a plate's steps. -/
structure InnOK (s : ByteArray) (n : Nat) (st0 st : Hx.St) (on : Bool) (acc : List Hx.Stp) (rest : Bool) (mn mx : Nat) : Prop where
  bad : st.bad = true → (Hx.plateF s n st0).1 = st
  go : st.bad = false → on = true → Hx.afterF s (Hx.boundsF s st).2 (acc ++ [⟨(Hx.boundsF s st).1.lo, (Hx.boundsF s st).1.hi, rest, mn, mx⟩]) = Hx.plateF s n st0
  fin : st.bad = false → on = false → (st, acc) = Hx.plateF s n st0

theorem out_more {s : ByteArray} {pos pos2 : Nat} {ps : List (List Hx.Stp)} {acc : List Hx.Stp} (hgo : Hx.platesF s ⟨pos, false⟩ ps = Hx.protF s) (hpf : ((⟨pos2, false⟩ : Hx.St), acc) = Hx.plateF s ps.length ⟨pos, false⟩) (h : pos2 < s.size) :
    OutOK s ⟨pos2, false⟩ true (ps ++ [acc]) := by
  refine ⟨fun h => (by cases h), fun _ _ => ?_, fun _ h => (by cases h)⟩
  have e := Hx.platesF_more (s := s) (st := ⟨pos, false⟩) (acc := ps) (by rw [← hpf]) (by rw [← hpf]; exact h)
  rw [← hgo, e, ← hpf]
theorem out_end {s : ByteArray} {pos pos2 : Nat} {ps : List (List Hx.Stp)} {acc : List Hx.Stp} (hgo : Hx.platesF s ⟨pos, false⟩ ps = Hx.protF s) (hpf : ((⟨pos2, false⟩ : Hx.St), acc) = Hx.plateF s ps.length ⟨pos, false⟩) (h : s.size ≤ pos2) :
    OutOK s ⟨pos2, false⟩ false (ps ++ [acc]) := by
  refine ⟨fun h => (by cases h), fun _ h => (by cases h), fun _ _ => ?_⟩
  have e := Hx.platesF_end (s := s) (st := ⟨pos, false⟩) (acc := ps) (by rw [← hpf]) (by rw [← hpf]; exact h)
  rw [← hgo, e, ← hpf]
theorem out_bad {s : ByteArray} {pos pos2 : Nat} {ps qs : List (List Hx.Stp)} {b : Bool} (hgo : Hx.platesF s ⟨pos, false⟩ ps = Hx.protF s) (hpf : (Hx.plateF s ps.length ⟨pos, false⟩).1 = ⟨pos2, true⟩) :
    OutOK s ⟨pos2, true⟩ b qs := by
  refine ⟨fun _ => ?_, fun h => (by cases h), fun h => (by cases h)⟩
  have e := Hx.platesF_bad (s := s) (st := ⟨pos, false⟩) (acc := ps) (by rw [hpf])
  rw [← hgo, e, hpf]
theorem six_of {s : ByteArray} {n pos pos2 : Nat} {acc : List Hx.Stp} (hpf : ((⟨pos2, false⟩ : Hx.St), acc) = Hx.plateF s n ⟨pos, false⟩) : pos + 6 ≤ pos2 := by
  have h := (Hx.plateF_six (s := s) (n := n) (st := ⟨pos, false⟩) (by rw [← hpf])).2
  rw [← hpf] at h
  exact h
theorem lab_len (i : Nat) (p : List Hx.Stp) : (Hx.lab i p).length = p.length := by simp [Hx.lab]
theorem tot_snoc {ps : List (List Hx.Stp)} {acc : List Hx.Stp} {p : Nat} (h : (Hx.labs ps).length + acc.length ≤ p) : (Hx.labs (ps ++ [acc])).length ≤ p := by
  rw [Hx.labs_snoc, List.length_append, lab_len]; exact h
theorem mO_lt {s : ByteArray} {pos pos2 : Nat} (h : pos < pos2) (h2 : pos2 ≤ s.size) : mO s ⟨pos2, false⟩ true < mO s ⟨pos, false⟩ true := by simp [mO]; omega
theorem mO_zero {s : ByteArray} {pos : Nat} {st : Hx.St} {on : Bool} (h : st.bad = true ∨ on = false) : mO s st on < mO s ⟨pos, false⟩ true := by
  have : ¬ (st.bad = false ∧ on = true) := by rcases h with h | h <;> simp [h]
  simp [mO, this]
theorem mO_any {s : ByteArray} {pos : Nat} {st : Hx.St} {on : Bool} (h : st.bad = false → on = true → pos < st.pos) (h2 : st.pos ≤ s.size) : mO s st on < mO s ⟨pos, false⟩ true := by
  by_cases g : st.bad = false ∧ on = true
  · have := h g.1 g.2
    simp [mO, g]; omega
  · simp [mO, g]
theorem inn_start (s : ByteArray) (n : Nat) (st : Hx.St) : InnOK s n st (Hx.openF s n st) true [] false 0 0 := by
  refine ⟨fun hb => ?_, fun _ _ => rfl, fun _ h => (by cases h)⟩
  unfold Hx.plateF
  rw [Hx.boundsF_bad hb, Hx.afterF_bad hb]
theorem inn_comma {s : ByteArray} {n p : Nat} {st0 : Hx.St} {acc : List Hx.Stp} (hgo : Hx.afterF s ⟨p, false⟩ acc = Hx.plateF s n st0) (h : Hx.byteAt s p = 44) : InnOK s n st0 ⟨p + 1, false⟩ true acc false 0 0 :=
  ⟨fun h => (by cases h), fun _ _ => (Hx.afterF_comma (st := ⟨p, false⟩) rfl h).symm.trans hgo, fun _ h => (by cases h)⟩
theorem inn_rest {s : ByteArray} {n p : Nat} {st0 : Hx.St} {acc : List Hx.Stp} (hgo : Hx.afterF s ⟨p, false⟩ acc = Hx.plateF s n st0) (h : Hx.byteAt s p = 126) :
    InnOK s n st0 (Hx.takeF s 126 (Hx.boundsF s ⟨p + 1, false⟩).2) true acc true (Hx.boundsF s ⟨p + 1, false⟩).1.lo (Hx.boundsF s ⟨p + 1, false⟩).1.hi := by
  have e := (Hx.afterF_rest (s := s) (st := ⟨p, false⟩) (acc := acc) rfl h).symm.trans hgo
  have er : Hx.restF s ⟨p, false⟩ = (⟨(Hx.boundsF s (Hx.takeF s 126 (Hx.boundsF s ⟨p + 1, false⟩).2)).1.lo, (Hx.boundsF s (Hx.takeF s 126 (Hx.boundsF s ⟨p + 1, false⟩).2)).1.hi, true, (Hx.boundsF s ⟨p + 1, false⟩).1.lo, (Hx.boundsF s ⟨p + 1, false⟩).1.hi⟩, (Hx.boundsF s (Hx.takeF s 126 (Hx.boundsF s ⟨p + 1, false⟩).2)).2) := by
    unfold Hx.restF
    rw [Hx.takeF_yes (st := ⟨p, false⟩) rfl h]
  rw [er] at e
  refine ⟨fun hb => ?_, fun _ _ => e, fun _ h => (by cases h)⟩
  rw [Hx.boundsF_bad hb, Hx.afterF_bad hb] at e
  rw [← e]
theorem inn_stop {s : ByteArray} {n : Nat} {st0 st3 : Hx.St} {acc : List Hx.Stp} (hgo : Hx.afterF s st3 acc = Hx.plateF s n st0) (h : st3.bad = true ∨ (Hx.byteAt s st3.pos ≠ 44 ∧ Hx.byteAt s st3.pos ≠ 126)) : InnOK s n st0 st3 false acc false 0 0 := by
  have e : Hx.afterF s st3 acc = (st3, acc) := by
    rcases h with h | ⟨h1, h2⟩
    · exact Hx.afterF_bad h
    · exact Hx.afterF_stop h1 h2
  rw [e] at hgo
  exact ⟨fun _ => by rw [← hgo], fun _ h => (by cases h), fun _ _ => hgo⟩
theorem start_tot {s : ByteArray} {n pos t : Nat} (h : t ≤ pos) : t + ([] : List Hx.Stp).length ≤ (Hx.openF s n ⟨pos, false⟩).pos := by
  have h1 := Hx.openF_ge s n ⟨pos, false⟩
  have h2 := Hx.takeF_ge s 59 ⟨pos, false⟩
  simp only [List.length_nil] at *; omega
theorem start_tot2 {s : ByteArray} {n pos t : Nat} (h : t ≤ pos) (hg : (Hx.openF s n ⟨pos, false⟩).bad = false) : t + ([] : List Hx.Stp).length + 1 ≤ (Hx.openF s n ⟨pos, false⟩).pos := by
  have h1 := (Hx.openF_good hg).2
  simp only [List.length_nil] at *; omega

end Go.Proofs.YtppcnlkhdgmaiaaGreatDoor
