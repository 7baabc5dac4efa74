/- What the law's own functions do, whichever kinds of steps they play: num, UpTo over the kinds from lo to hi, each of which plays well. -/
import Derived.Test.YtppcnlkhdgmaiaaGreatDoorRdG
namespace Go.Proofs.YtppcnlkhdgmaiaaGreatDoor
open Go.RowKit

theorem Tab.below {w w' : World} (h : Tab w) (hb : Below w.heap.size w w') : Tab w' := fun i hi => by
  have h1 := h i hi
  rw [hb.cell (World.block_lt_of_cell? w ⟨1, i, none⟩ h1)]; exact h1

set_option maxHeartbeats 1000000 in
theorem num_any (n : Int) (w : World) : Calls Tryz.prog 11 #[.int .i64 n] w fun e w' => e = .returned (.int .i64 n) ∧ w' = w := by
  go_enter Tryz.func11, Tryz.ntmps11
  go_wp2
  go_ret
  exact ⟨rfl, rfl⟩

/-- The script's cells: of each step its kind, its number, its two texts. -/
def Scr (w : World) (b off len : Nat) : Prop := ∀ i, i < len → ∃ (k n : Int) (s t : ByteArray), w.cell? ⟨b, off + i * 4, none⟩ = some (.int .i64 k) ∧ w.cell? ⟨b, off + i * 4 + 1, none⟩ = some (.int .i64 n) ∧ w.cell? ⟨b, off + i * 4 + 2, none⟩ = some (.string s) ∧ w.cell? ⟨b, off + i * 4 + 3, none⟩ = some (.string t) ∧ s.size ≤ maxLen ∧ t.size ≤ maxLen

/-- A step of the kinds from lo to hi is played as the document says, wherever E holds. -/
def Plays (E : World → Prop) (lo hi : Int) : Prop := ∀ (k n : Int) (s t : ByteArray) (w : World), lo ≤ k → k ≤ hi → s.size ≤ maxLen → t.size ≤ maxLen → E w →
    Calls Tryz.prog 8 #[.agg #[.int .i64 k, .int .i64 n, .string s, .string t]] w fun e w' => e = .returned (.bool true) ∧ Below w.heap.size w w'
/-- What holds of memory, whatever is laid besides. -/
def Lasts (E : World → Prop) : Prop := ∀ w w' : World, E w → Below w.heap.size w w' → E w'
theorem Lasts.alloc {E : World → Prop} (h : Lasts E) {w : World} (hw : E w) (o : Obj) : E (w.alloc o) := h w _ hw ((Below.refl _ _).alloc (Nat.le_refl _) o)
theorem lasts_tab : Lasts Tab := fun _ _ h hb => h.below hb

set_option maxRecDepth 100000 in
set_option maxHeartbeats 4000000 in
theorem upto_any (E : World → Prop) (hE : Lasts E) (lo hi : Int) (hpl : Plays E lo hi) (b off len cap : Nat) (w : World) (hlen : len ≤ maxLen) (hb : b < w.heap.size) (hsc : Scr w b off len) (ht : E w) :
    Calls Tryz.prog 7 #[.slice (some ⟨b, off, none⟩) len cap, .int .i64 lo, .int .i64 hi] w fun e w' => e = .returned (.int .i64 (-1)) ∧ Below w.heap.size w w' := by
  unfold maxLen at hlen
  have HT := hide ht
  have HE := hide hE
  have HSC := hide hsc
  have HPL := hide hpl
  clear ht hsc hpl hE
  go_enter Tryz.func7, Tryz.ntmps7
  go_wp2_with fail
  go_loopg [7] len (fun gk i wr => ∃ k : Nat, k ≤ len ∧ gk = len - k ∧ i = .int .i64 (k : Int) ∧ Below w.heap.size w wr)
  case atStart => exact ⟨0, Nat.zero_le _, rfl, rfl, Below.refl _ _⟩
  case round =>
    obtain ⟨i, hi', rfl, rfl, hbe⟩ := hrel
    have HBE := hide hbe
    have HTR := hide ((unhide HE) _ _ (unhide HT) hbe)
    clear hbe
    by_cases hlt : i < len
    · obtain ⟨k, n, s, t, x0, x1, x2, x3, hs, hs2⟩ := unhide HSC i hlt
      have y0 := (unhide HBE).cell (p := ⟨b, off + i * 4, none⟩) hb
      have y1 := (unhide HBE).cell (p := ⟨b, off + i * 4 + 1, none⟩) hb
      have y2 := (unhide HBE).cell (p := ⟨b, off + i * 4 + 2, none⟩) hb
      have y3 := (unhide HBE).cell (p := ⟨b, off + i * 4 + 3, none⟩) hb
      rw [x0] at y0
      rw [x1] at y1
      rw [x2] at y2
      rw [x3] at y3
      have HS := hide hs
      have HS2 := hide hs2
      clear x0 x1 x2 x3 hs hs2
      by_cases h1 : lo ≤ k
      · by_cases h2 : k ≤ hi
        · have H1 := hide h1
          have H2 := hide h2
          go_wp2_with fail
          refine ((unhide HPL) k n s t _ (unhide H1) (unhide H2) (unhide HS) (unhide HS2) ((unhide HE).alloc (unhide HTR) _)).mono ?_
          rintro e w2 ⟨rfl, hb2⟩
          have HB2 := hide (((unhide HBE).alloc (unhide HBE).size _).trans (hb2.mono (by have := (unhide HBE).size; simp; omega)))
          clear hb2 y0 y1 y2 y3
          go_wp2_with fail
          go_roundg (len - (i + 1))
          case measure => omega
          case rel => exact ⟨i + 1, by omega, rfl, by go_num, unhide HB2⟩
        · go_wp2_with fail
          go_roundg (len - (i + 1))
          case measure => omega
          case rel => exact ⟨i + 1, by omega, rfl, by go_num, (unhide HBE).alloc (unhide HBE).size _⟩
      · go_wp2_with fail
        go_roundg (len - (i + 1))
        case measure => omega
        case rel => exact ⟨i + 1, by omega, rfl, by go_num, (unhide HBE).alloc (unhide HBE).size _⟩
    · go_wp2_with fail
      go_returns
      exact ⟨rfl, unhide HBE⟩

set_option maxHeartbeats 1000000 in
theorem upto_none (lo hi : Int) (ao : Option Addr) (cap : Nat) (w : World) :
    Calls Tryz.prog 7 #[.slice ao 0 cap, .int .i64 lo, .int .i64 hi] w fun e w' => e = .returned (.int .i64 (-1)) ∧ Below w.heap.size w w' := by
  go_enter Tryz.func7, Tryz.ntmps7
  go_wp2_with fail
  refine wp_loop_rounds 1 ?_
  rw [rounds_succ]
  go_wp2_with fail
  go_returns
  exact ⟨rfl, Below.refl _ _⟩

end Go.Proofs.YtppcnlkhdgmaiaaGreatDoor
