/- How the document reads a script: numbers, Script. -/
import Derived.Test.YtppcnlkhdgmaiaaGreatDoorRgJ
namespace Go.Proofs.YtppcnlkhdgmaiaaGreatDoor
open Go.RowKit

def NumbersSaid (s : ByteArray) (b : Nat) (st : Hx.St) (c : Nat) (w : World) : Prop :=
  Calls Tryz.prog 67 #[.pointer (some ⟨b, 0, none⟩), .int .u8 (c : Int)] w fun e w' => ∃ v, e = .returned v ∧ Rd 108 s b (Hx.numbersF s c st).2 w' ∧ w'.ownsRow w.heap.size 3 1 v (Hx.numbersF s c st).1.length (ints (nats (Hx.numbersF s c st).1)) ∧ (Hx.numbersF s c st).1.length ≤ s.size + 1 ∧ w.grownBy w' (some b)
theorem numbers_zero (s : ByteArray) (b : Nat) (st : Hx.St) (w : World) (hs : s.size ≤ 1000000) (hp : st.pos ≤ s.size) (hr : Rd 108 s b st w) : NumbersSaid s b st 0 w := by
  unfold NumbersSaid
  by_cases h : st.pos = s.size
  · have e : Hx.numbersF s 0 st = ([], st) := if_pos (Or.inl ⟨rfl, h⟩)
    rw [e]
    refine (none_zero s b st w h hr).mono ?_
    rintro _ w' ⟨rfl, h1, h2⟩
    exact ⟨_, rfl, h1, World.ownsRow_nil _ _ _ _, Nat.zero_le _, h2⟩
  · have e : Hx.numbersF s 0 st = Hx.numsF s st [] := if_neg (by rintro (⟨_, g⟩ | ⟨g, _⟩); exact h g; exact g rfl)
    rw [e]
    exact nums_zero s b st w hs (by omega) hr
theorem numbers_bar (s : ByteArray) (b : Nat) (st : Hx.St) (w : World) (hs : s.size ≤ 1000000) (hp : st.pos ≤ s.size) (hr : Rd 108 s b st w) : NumbersSaid s b st 47 w := by
  unfold NumbersSaid
  by_cases h : Hx.byteAt s st.pos = 47
  · have hlt : st.pos < s.size := Hx.byteAt_in (by omega)
    have e : Hx.numbersF s 47 st = ([], st) := if_pos (Or.inr ⟨by omega, h⟩)
    rw [e]
    refine (none_byte s b st w hlt (by rw [Hx.byteAt_lt hlt] at h; omega) hr).mono ?_
    rintro _ w' ⟨rfl, h1, h2⟩
    exact ⟨_, rfl, h1, World.ownsRow_nil _ _ _ _, Nat.zero_le _, h2⟩
  · have e : Hx.numbersF s 47 st = Hx.numsF s st [] := if_neg (by rintro (⟨g, _⟩ | ⟨_, g⟩); omega; exact h g)
    rw [e]
    by_cases hlt : st.pos < s.size
    · exact nums_byte s b st w hs hlt (by rw [Hx.byteAt_lt hlt] at h; omega) hr
    · exact nums_end s b st w hs (by omega) hr
end Go.Proofs.YtppcnlkhdgmaiaaGreatDoor
