/- What the document's test of a list of steps does: fits. -/
import Derived.Test.YtppcnlkhdgmaiaaDoorCRfP
import Derived.BigRegion
namespace Go.Proofs.YtppcnlkhdgmaiaaDoor
open Go.RowKit

namespace Hx
/-- Does a rest begin behind the step at place i? -/
def restAfter (L : List Lst) (i : Nat) : Bool := match L[i + 1]? with | some y => y.x.rest | none => false
/-- One step more of a list that fits so far: the rests under way, the plates' next numbers. -/
def fitStep (K : Nat) (L : List Lst) (r : Int) (nx : Nat → Nat) (i : Nat) : Option (Int × (Nat → Nat)) :=
  match L[i]? with
  | none => none
  | some y =>
    if y.no = nx y.pl then
      if (K : Int) < (r - (if y.x.rest then 1 else 0)) + (if restAfter L i then 1 else 0) then none
      else some ((r - (if y.x.rest then 1 else 0)) + (if restAfter L i then 1 else 0), fun p => if p = y.pl then nx p + 1 else nx p)
    else none
def fitsF (K : Nat) (L : List Lst) : List Nat → Int → (Nat → Nat) → Bool
  | [], _, _ => true
  | i :: l, r, nx =>
    match fitStep K L r nx i with
    | none => false
    | some st => fitsF K L l st.1 st.2
theorem fitsF_drop {K : Nat} {L : List Lst} {l : List Nat} {k i : Nat} {r : Int} {nx : Nat → Nat} (h : l[k]? = some i) :
    fitsF K L (l.drop k) r nx = match fitStep K L r nx i with
      | none => false
      | some st => fitsF K L (l.drop (k + 1)) st.1 st.2 := by
  have hk : k < l.length := by
    by_cases e : k < l.length
    · exact e
    · rw [List.getElem?_eq_none (by omega)] at h; cases h
  have hi : l[k] = i := by rw [List.getElem?_eq_getElem hk] at h; exact Option.some.inj h
  rw [List.drop_eq_getElem_cons hk, hi]
  rfl
end Hx

theorem grown_drew (w : World) (row : Option Nat) : w.grownBy w.drew row := ⟨rfl, rfl, rfl, Nat.le_refl _, fun _ _ _ => rfl⟩
def nats (l : List Nat) : List Int := l.map (fun (n : Nat) => (n : Int))
theorem nats_len (l : List Nat) : (nats l).length = l.length := by simp [nats]
theorem nats_at (l : List Nat) (k i : Nat) (h : l[k]? = some i) : (nats l)[k]? = some (i : Int) := by simp [nats, h]

theorem zero26 (i : Nat) (hi : i < 26) : (#[.int .i64 0, .int .i64 0, .int .i64 0, .int .i64 0, .int .i64 0, .int .i64 0, .int .i64 0, .int .i64 0, .int .i64 0, .int .i64 0, .int .i64 0, .int .i64 0, .int .i64 0, .int .i64 0, .int .i64 0, .int .i64 0, .int .i64 0, .int .i64 0, .int .i64 0, .int .i64 0, .int .i64 0, .int .i64 0, .int .i64 0, .int .i64 0, .int .i64 0, .int .i64 0] : Array Value)[i]? = some (.int .i64 ((0 : Nat) : Int)) := by
  have e : (#[.int .i64 0, .int .i64 0, .int .i64 0, .int .i64 0, .int .i64 0, .int .i64 0, .int .i64 0, .int .i64 0, .int .i64 0, .int .i64 0, .int .i64 0, .int .i64 0, .int .i64 0, .int .i64 0, .int .i64 0, .int .i64 0, .int .i64 0, .int .i64 0, .int .i64 0, .int .i64 0, .int .i64 0, .int .i64 0, .int .i64 0, .int .i64 0, .int .i64 0, .int .i64 0] : Array Value) = (List.replicate 26 (Value.int .i64 0)).toArray := rfl
  rw [e, List.getElem?_toArray, List.getElem?_replicate, if_pos hi]; rfl
end Go.Proofs.YtppcnlkhdgmaiaaDoor
