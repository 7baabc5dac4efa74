/- What the program's Run answers. -/
import Derived.Test.YtppcnlkhdgmaiaaGreatDoorRnP
import Derived.Test.YtppcnlkhdgmaiaaGreatDoorRmG
import Derived.Test.YtppcnlkhdgmaiaaGreatDoorRsB
import Derived.Test.YtppcnlkhdgmaiaaGreatDoorRrC
namespace Go.Proofs.YtppcnlkhdgmaiaaGreatDoor
open Go.RowKit

theorem own_block_lt {w : World} {base : Nat} {e : TypeId} {size : Nat} {v : Value} {n : Nat} {xs : List Value} (h : w.ownsRow base e size v n xs) {b : Nat} (hb : w.heap.size ≤ b) : v.ownBlock = none ∨ v.ownBlock ≠ some b := by
  cases ho : v.ownBlock with
  | none => exact Or.inl rfl
  | some k =>
    have := (h.lt k ho).2
    exact Or.inr (fun e => by cases e; omega)

/-- The machine as Run makes it. -/
theorem start_mem (w : World) (J : Nat) (tv cv kv : Value) (l : List Hx.TStp) (clock takes : List Nat) (ht : w.ownsRow 0 146 11 tv l.length (ptsCells l)) (hc : w.ownsRow 0 3 1 cv clock.length (ints (nats clock))) (hk : w.ownsRow 0 3 1 kv takes.length (ints (nats takes)))
    (hok : ∀ y ∈ l, Hx.TOk y) (hll : l.length ≤ 401) (hcl : clock.length ≤ 1000) (hkl : takes.length ≤ 1000) (hkn : ∀ n ∈ takes, n < 1000) (hj : J < 10) :
    Stat ⟨w.heap.size, J, tv, cv, kv, l, clock, takes⟩ (w.alloc (.cells #[.int .i64 (J : Int), tv, cv, kv, .int .i64 0, .int .i64 0, .bool false, .slice none 0 0, .int .i64 0, .int .i64 0, .int .i64 0, .int .i64 0] 91)) ∧
    Mem ⟨w.heap.size, J, tv, cv, kv, l, clock, takes⟩ (w.alloc (.cells #[.int .i64 (J : Int), tv, cv, kv, .int .i64 0, .int .i64 0, .bool false, .slice none 0 0, .int .i64 0, .int .i64 0, .int .i64 0, .int .i64 0] 91)) (w.alloc (.cells #[.int .i64 (J : Int), tv, cv, kv, .int .i64 0, .int .i64 0, .bool false, .slice none 0 0, .int .i64 0, .int .i64 0, .int .i64 0, .int .i64 0] 91)) Hx.startM (.slice none 0 0) (stsCells Hx.startM.sts) := by
  refine ⟨⟨by simp, ht.alloc _, own_block_lt ht (Nat.le_refl _), hc.alloc _, own_block_lt hc (Nat.le_refl _), hk.alloc _, own_block_lt hk (Nat.le_refl _), hok, hll, hcl, hkl, hkn, hj⟩, ⟨blk_new w _ _, World.ownsRow_nil _ _ _ _, World.grownBy.refl _ _⟩⟩

end Go.Proofs.YtppcnlkhdgmaiaaGreatDoor
