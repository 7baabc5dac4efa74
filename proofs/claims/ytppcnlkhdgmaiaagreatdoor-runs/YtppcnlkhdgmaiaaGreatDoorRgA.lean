/- What the document's Decimal and Name do: the digits of a number, a step's name. -/
import Derived.Test.YtppcnlkhdgmaiaaGreatDoorRfC
namespace Go.Proofs.YtppcnlkhdgmaiaaGreatDoor
open Go.RowKit

namespace Hx
/-- The digits of a number. -/
def decF (n : Nat) : List UInt8 := if n < 10 then [UInt8.ofNat (48 + n)] else decF (n / 10) ++ [UInt8.ofNat (48 + n % 10)]
termination_by n
decreasing_by omega
theorem decF_one {n : Nat} (h : n < 10) : decF n = [UInt8.ofNat (48 + n)] := by rw [decF, if_pos h]
theorem decF_len (n : Nat) : (decF n).length ≤ n + 1 := by
  induction n using decF.induct with
  | case1 n h => rw [decF, if_pos h]; simp
  | case2 n h ih =>
    rw [decF, if_neg h, List.length_append]
    show _ + 1 ≤ _
    omega
theorem decF_more {n : Nat} (h : ¬ n < 10) : decF n = decF (n / 10) ++ [UInt8.ofNat (48 + n % 10)] := by rw [decF, if_neg h]
end Hx

theorem digit_ext : ∀ d, d < 10 → (⟨#[48, 49, 50, 51, 52, 53, 54, 55, 56, 57]⟩ : ByteArray).extract d (d + 1) = ⟨#[UInt8.ofNat (48 + d)]⟩ := by decide
theorem letter_ext : ∀ d, d < 26 → (⟨#[97, 98, 99, 100, 101, 102, 103, 104, 105, 106, 107, 108, 109, 110, 111, 112, 113, 114, 115, 116, 117, 118, 119, 120, 121, 122]⟩ : ByteArray).extract d (d + 1) = ⟨#[UInt8.ofNat (97 + d)]⟩ := by decide
theorem bytes_app (a b : List UInt8) : (⟨a.toArray⟩ : ByteArray) ++ ⟨b.toArray⟩ = ⟨(a ++ b).toArray⟩ := by
  apply ByteArray.ext
  rw [ByteArray.data_append]
  simp
theorem digit_app (d : Nat) (hd : d < 10) (l : List UInt8) : (⟨#[48, 49, 50, 51, 52, 53, 54, 55, 56, 57]⟩ : ByteArray).extract d (d + 1) ++ ⟨l.toArray⟩ = ⟨([UInt8.ofNat (48 + d)] ++ l).toArray⟩ := by
  rw [digit_ext d hd]; exact bytes_app [UInt8.ofNat (48 + d)] l
theorem letter_app (d : Nat) (hd : d < 26) (l : List UInt8) : (⟨#[97, 98, 99, 100, 101, 102, 103, 104, 105, 106, 107, 108, 109, 110, 111, 112, 113, 114, 115, 116, 117, 118, 119, 120, 121, 122]⟩ : ByteArray).extract d (d + 1) ++ ⟨l.toArray⟩ = ⟨([UInt8.ofNat (97 + d)] ++ l).toArray⟩ := by
  rw [letter_ext d hd]; exact bytes_app [UInt8.ofNat (97 + d)] l
theorem ret_str {a b : ByteArray} (h : a = b) : Ending.returned (.string a) = .returned (.string b) := by rw [h]

set_option maxHeartbeats 1000000 in
theorem decimal_any (n0 : Nat) (ni : Int) (w : World) (hn : n0 ≤ 1000000) (hni : ni = (n0 : Int)) :
    Calls Tryz.prog 39 #[.int .i64 ni] w fun e w' => e = .returned (.string ⟨(Hx.decF n0).toArray⟩) ∧ w' = w := by
  subst hni
  go_enter Tryz.func39, Tryz.ntmps39
  go_wp2_with fail
  go_loopg [0, 3] n0 (fun gk n t wr => ∃ l : List UInt8, n = .int .i64 (gk : Int) ∧ t = .string ⟨l.toArray⟩ ∧ gk + l.length ≤ n0 ∧ Hx.decF gk ++ l = Hx.decF n0 ∧ wr = w)
  case atStart => exact ⟨[], rfl, rfl, by simp, by simp, rfl⟩
  case round =>
    obtain ⟨l, rfl, rfl, hm, hd, hw⟩ := hrel
    subst hw
    have HD := hide hd
    clear hd
    by_cases h9 : (9 : Int) < (gk : Int)
    · have hs := hide (digit_app (gk % 10) (by omega) l)
      have HD2 : Hid (Hx.decF (gk / 10) ++ ([UInt8.ofNat (48 + gk % 10)] ++ l) = Hx.decF n0) := by
        show _ = _
        rw [← unhide HD, Hx.decF_more (n := gk) (by omega), List.append_assoc]
      go_wp2_with fail
      go_roundg (gk / 10)
      case measure => omega
      case rel => exact ⟨_, by go_num, by rw [unhide hs], by rw [List.length_append]; show gk / 10 + (1 + l.length) ≤ n0; omega, unhide HD2, rfl⟩
    · have hs := hide (digit_app gk (by omega) l)
      have HD2 : Hid ([UInt8.ofNat (48 + gk)] ++ l = Hx.decF n0) := by
        show _ = _
        rw [← unhide HD, Hx.decF_one (n := gk) (by omega)]
      have h9' : (gk : Int) ≤ 9 := by omega
      clear h9
      go_wp2_with fail
      go_returns
      exact ⟨ret_str (by rw [← unhide HD2]; exact unhide hs), rfl⟩

/-- A step's name. -/
def nameB (pl no : Nat) : List UInt8 := [UInt8.ofNat (97 + pl)] ++ Hx.decF no

set_option maxHeartbeats 1000000 in
theorem name_any (y : Hx.Lst) (t7 t8 t9 : Int) (w : World) (hpl : y.pl < 26) (hno : y.no ≤ 1000000) :
    Calls Tryz.prog 24 #[.agg #[.int .i64 (y.pl : Int), .int .i64 (y.no : Int), .int .i64 (y.x.lo : Int), .int .i64 (y.x.hi : Int), .bool y.x.rest, .int .i64 (y.x.mn : Int), .int .i64 (y.x.mx : Int), .int .i64 t7, .int .i64 t8, .int .i64 t9]] w fun e w' => e = .returned (.string ⟨(nameB y.pl y.no).toArray⟩) ∧ Below w.heap.size w w' := by
  obtain ⟨pl, no, lo, hi, rest, mn, mx⟩ := y
  simp only at *
  have hs := hide (letter_app pl hpl (Hx.decF no))
  have hpl' : (pl : Int) < 26 := by omega
  have hlen : (Hx.decF no).length ≤ 1000001 := Nat.le_trans (Hx.decF_len no) (by omega)
  go_enter Tryz.func24, Tryz.ntmps24
  go_wp2_with fail
  go_quiet ((go_at_call 39; refine Calls.quiet_of_same (decimal_any no _ _ (by omega) rfl)))
  go_wp2_with fail
  go_returns
  exact ⟨ret_str (unhide hs), below_drewN ((Below.refl _ _).alloc (Nat.le_refl _) _) _⟩

end Go.Proofs.YtppcnlkhdgmaiaaGreatDoor
