/- What the law's own functions do: num, plays at a Check, UpTo over Checks alone, Checks. -/
import Derived.Test.YtbhpihaccbnnlaaDoorRdG
namespace Go.Proofs.YtbhpihaccbnnlaaDoor
open Go.RowKit

/-- What the document's Check answers, as a statement. -/
def RefSaid : Prop := ∀ (s : ByteArray) (w : World), s.size ≤ maxLen →
    Calls Tryd.prog 36 #[.string s] w fun e w' => e = .returned (.tuple #[.int .i64 ((Hx.checkF s).1 : Int), .int .i64 ((Hx.checkF s).2 : Int)]) ∧ Below w.heap.size w w'

theorem Tab.below {w w' : World} (h : Tab w) (hb : Below w.heap.size w w') : Tab w' := fun i hi => by
  have h1 := h i hi
  rw [hb.cell (World.block_lt_of_cell? w ⟨0, i, none⟩ h1)]; exact h1

set_option maxHeartbeats 1000000 in
theorem num_any (n : Int) (w : World) : Calls Tryd.prog 37 #[.int .i64 n] w fun e w' => e = .returned (.int .i64 n) ∧ w' = w := by
  go_enter Tryd.func37, Tryd.ntmps37
  go_wp2
  go_ret
  exact ⟨rfl, rfl⟩

set_option maxRecDepth 100000 in
set_option maxHeartbeats 4000000 in
theorem plays_any (href : RefSaid) (n : Int) (s t : ByteArray) (w : World) (hs : s.size ≤ maxLen) (ht : Tab w) :
    Calls Tryd.prog 25 #[.agg #[.int .i64 1, .int .i64 n, .string s, .string t]] w fun e w' => e = .returned (.bool true) ∧ Below w.heap.size w w' := by
  have HT := hide ht
  have HS := hide hs
  have HREF := hide href
  clear ht hs href
  go_enter Tryd.func25, Tryd.ntmps25
  go_wp2_with fail
  refine (check_any s _ (unhide HS) (Tab.alloc (unhide HT) _)).mono ?_
  rintro e w1 ⟨rfl, hb1⟩
  have c2 : w1.cell? ⟨w.heap.size, 2, none⟩ = some (.string s) := by
    rw [hb1.cell (p := ⟨w.heap.size, 2, none⟩) (by simp)]
    exact blk_cell (blk_new w #[.int .i64 1, .int .i64 n, .string s, .string t] 58) 2
  have HB1 := hide (((Below.refl w.heap.size w).alloc (Nat.le_refl _) _).trans (hb1.mono (by simp)))
  clear hb1
  go_wp2_with fail
  refine ((unhide HREF) s _ (unhide HS)).mono ?_
  rintro e w2 ⟨rfl, hb2⟩
  have HB2 := hide ((unhide HB1).trans (hb2.mono (unhide HB1).size))
  clear hb2
  go_wp2_with fail
  refine (num_any _ _).mono ?_
  rintro e w3 ⟨rfl, rfl⟩
  have e1 : (((Hx.checkF s).1 : Int) == ((Hx.checkF s).1 : Int)) = true := by simp
  have e2 : (((Hx.checkF s).2 : Int) == ((Hx.checkF s).2 : Int)) = true := by simp
  go_wp2_with fail
  go_returns
  exact ⟨rfl, unhide HB2⟩

/-- The script's cells: of each step its kind, its number, its two texts. -/
def Scr (w : World) (b off len : Nat) : Prop := ∀ i, i < len → ∃ (k n : Int) (s t : ByteArray), w.cell? ⟨b, off + i * 4, none⟩ = some (.int .i64 k) ∧ w.cell? ⟨b, off + i * 4 + 1, none⟩ = some (.int .i64 n) ∧ w.cell? ⟨b, off + i * 4 + 2, none⟩ = some (.string s) ∧ w.cell? ⟨b, off + i * 4 + 3, none⟩ = some (.string t) ∧ s.size ≤ maxLen

set_option maxRecDepth 100000 in
set_option maxHeartbeats 4000000 in
theorem upto_any (href : RefSaid) (b off len cap : Nat) (w : World) (hlen : len ≤ maxLen) (hb : b < w.heap.size) (hsc : Scr w b off len) (ht : Tab w) :
    Calls Tryd.prog 9 #[.slice (some ⟨b, off, none⟩) len cap, .int .i64 1, .int .i64 1] w fun e w' => e = .returned (.int .i64 (-1)) ∧ Below w.heap.size w w' := by
  unfold maxLen at hlen
  have HT := hide ht
  have HSC := hide hsc
  have HREF := hide href
  clear ht hsc href
  go_enter Tryd.func9, Tryd.ntmps9
  go_wp2_with fail
  go_loopg [7] len (fun gk i wr => ∃ k : Nat, k ≤ len ∧ gk = len - k ∧ i = .int .i64 (k : Int) ∧ Below w.heap.size w wr)
  case atStart => exact ⟨0, Nat.zero_le _, rfl, rfl, Below.refl _ _⟩
  case round =>
    obtain ⟨i, hi, rfl, rfl, hbe⟩ := hrel
    have HBE := hide hbe
    have HTR := hide ((unhide HT).below hbe)
    clear hbe
    by_cases hlt : i < len
    · obtain ⟨k, n, s, t, x0, x1, x2, x3, hs⟩ := unhide HSC i hlt
      have y0 := (unhide HBE).cell (p := ⟨b, off + i * 4, none⟩) hb
      have y1 := (unhide HBE).cell (p := ⟨b, off + i * 4 + 1, none⟩) hb
      have y2 := (unhide HBE).cell (p := ⟨b, off + i * 4 + 2, none⟩) hb
      have y3 := (unhide HBE).cell (p := ⟨b, off + i * 4 + 3, none⟩) hb
      rw [x0] at y0
      rw [x1] at y1
      rw [x2] at y2
      rw [x3] at y3
      have HS := hide hs
      clear x0 x1 x2 x3 hs
      by_cases hk : k = 1
      · subst hk
        go_wp2_with fail
        refine (plays_any (unhide HREF) n s t _ (unhide HS) (Tab.alloc (unhide HTR) _)).mono ?_
        rintro e w2 ⟨rfl, hb2⟩
        have HB2 := hide (((unhide HBE).alloc (unhide HBE).size _).trans (hb2.mono (by have := (unhide HBE).size; simp; omega)))
        clear hb2 y0 y1 y2 y3
        go_wp2_with fail
        go_roundg (len - (i + 1))
        case measure => omega
        case rel => exact ⟨i + 1, by omega, rfl, by go_num, unhide HB2⟩
      · by_cases h1 : 1 ≤ k
        · have h2 : ¬ k ≤ 1 := by omega
          clear hk
          go_wp2_with fail
          go_roundg (len - (i + 1))
          case measure => omega
          case rel => exact ⟨i + 1, by omega, rfl, by go_num, (unhide HBE).alloc (unhide HBE).size _⟩
        · clear hk
          go_wp2_with fail
          go_roundg (len - (i + 1))
          case measure => omega
          case rel => exact ⟨i + 1, by omega, rfl, by go_num, (unhide HBE).alloc (unhide HBE).size _⟩
    · go_wp2_with fail
      go_returns
      exact ⟨rfl, unhide HBE⟩

set_option maxHeartbeats 1000000 in
theorem upto_none (ao : Option Addr) (cap : Nat) (w : World) :
    Calls Tryd.prog 9 #[.slice ao 0 cap, .int .i64 1, .int .i64 1] w fun e w' => e = .returned (.int .i64 (-1)) ∧ Below w.heap.size w w' := by
  go_enter Tryd.func9, Tryd.ntmps9
  go_wp2_with fail
  refine wp_loop_rounds 1 ?_
  rw [rounds_succ]
  go_wp2_with fail
  go_returns
  exact ⟨rfl, Below.refl _ _⟩

set_option maxHeartbeats 1000000 in
theorem checks_any (v : Value) (w : World) (h : Calls Tryd.prog 9 #[v, .int .i64 1, .int .i64 1] w fun e w' => e = .returned (.int .i64 (-1)) ∧ Below w.heap.size w w') :
    Calls Tryd.prog 3 #[v] w fun e w' => e = .returned (.bool true) ∧ Below w.heap.size w w' := by
  have HH := hide h
  clear h
  go_enter Tryd.func3, Tryd.ntmps3
  go_wp2_with fail
  refine (unhide HH).mono ?_
  rintro e w1 ⟨rfl, hb⟩
  have HB := hide hb
  clear hb
  go_wp2_with fail
  go_returns
  exact ⟨rfl, unhide HB⟩

end Go.Proofs.YtbhpihaccbnnlaaDoor
