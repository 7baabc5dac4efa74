/- What the document's Run needs: names and numbers as they are written; where a look is. -/
import Derived.Test.YtppcnlkhdgmaiaaGreatDoorRrA
import Derived.Lib.Strings
namespace Go.Proofs.YtppcnlkhdgmaiaaGreatDoor
open Go.RowKit

theorem decF_itoa (n : Nat) : Hx.decF n = Lib.itoa (n : Int) := by
  have e : ∀ n, Hx.decF n = Lib.decDigits n := by
    intro n
    induction n using Hx.decF.induct with
    | case1 n h => rw [Hx.decF, if_pos h, Lib.decDigits, dif_pos h]
    | case2 n h ih => rw [Hx.decF, if_neg h, Lib.decDigits, dif_neg h, ih]
  rw [e, Lib.itoa, if_neg (by omega)]
  simp
theorem nameB_nm (pl no : Nat) (h : no < 10) : nameB pl no = Hx.nmB pl no := by
  rw [nameB, Hx.decF_one h]; rfl
/-- A step of a table, as the document's Name takes it. -/
abbrev tsAgg (y : Hx.TStp) : Value := .agg #[.int .i64 (y.pl : Int), .int .i64 (y.no : Int), .int .i64 (y.lo : Int), .int .i64 (y.hi : Int), .bool y.rest, .int .i64 (y.mn : Int), .int .i64 (y.mx : Int), .int .i64 (y.t : Int), .int .i64 y.out, .int .i64 y.inn]
theorem tsname_any (y : Hx.TStp) (w : World) (h : Hx.TOk y) : Calls Tryz.prog 24 #[tsAgg y] w fun e w' => e = .returned (.string ⟨#[UInt8.ofNat (97 + y.pl), UInt8.ofNat (48 + y.no)]⟩) ∧ Below w.heap.size w w' := by
  refine (name_any ⟨y.pl, y.no, ⟨y.lo, y.hi, y.rest, y.mn, y.mx⟩⟩ (y.t : Int) y.out y.inn w (by have := h.pl; simp only; omega) (by have := h.no; simp only; omega)).mono ?_
  rintro e w' ⟨rfl, hb⟩
  refine ⟨?_, hb⟩
  simp only
  rw [nameB_nm _ _ h.no]
  rfl
theorem dec_any (n : Nat) (w : World) (hn : n ≤ 1000000) (ni : Int) (hni : ni = (n : Int)) : Calls Tryz.prog 39 #[.int .i64 ni] w fun e w' => e = .returned (.string ⟨(Lib.itoa (n : Int)).toArray⟩) ∧ w' = w := by
  refine (decimal_any n ni w hn hni).mono ?_
  rintro e w' ⟨rfl, rfl⟩
  exact ⟨by rw [decF_itoa], rfl⟩
theorem Hx.firstF_cases (L : List Int) (x : Int) (n : Nat) : ∀ k, L.length - k = n → Hx.firstF L x k = -1 ∨ ∃ a : Nat, Hx.firstF L x k = (a : Int) ∧ k ≤ a ∧ a < L.length := by
  induction n with
  | zero => intro k hk; exact Or.inl (Hx.firstF_end (by omega))
  | succ n ih =>
    intro k hk
    have hlt : k < L.length := by omega
    by_cases h : x ≤ L[k]
    · exact Or.inr ⟨k, Hx.firstF_here (List.getElem?_eq_getElem hlt) h, Nat.le_refl _, hlt⟩
    · rw [Hx.firstF_next (List.getElem?_eq_getElem hlt) h]
      rcases ih (k + 1) (by omega) with h2 | ⟨a, h2, h3, h4⟩
      · exact Or.inl h2
      · exact Or.inr ⟨a, h2, by omega, h4⟩
theorem Hx.sumsF_bound (t : Nat) (cs : List Nat) : ∀ v ∈ Hx.sumsF t cs, ∃ n : Nat, v = (n : Int) ∧ n ≤ t + cs.sum := by
  induction cs generalizing t with
  | nil => intro v hv; rw [List.mem_singleton.1 hv]; exact ⟨t, rfl, by simp⟩
  | cons c cs ih =>
    intro v hv
    rcases List.mem_cons.1 hv with rfl | hv
    · exact ⟨t, rfl, by omega⟩
    · obtain ⟨n, e, h⟩ := ih (t + c) v hv
      exact ⟨n, e, by rw [List.sum_cons]; omega⟩
theorem ts_cells {w : World} {g cap : Nat} {l : List Hx.TStp} {k : Nat} {y : Hx.TStp} (h : w.ownsRow 0 53 10 (.slice (some ⟨g, 0, none⟩) l.length cap) l.length (tssCells l)) (hy : l[k]? = some y) :
    w.cell? ⟨g, k * 10, none⟩ = some (.int .i64 (y.pl : Int)) ∧ w.cell? ⟨g, k * 10 + 1, none⟩ = some (.int .i64 (y.no : Int)) ∧ w.cell? ⟨g, k * 10 + 2, none⟩ = some (.int .i64 (y.lo : Int)) ∧ w.cell? ⟨g, k * 10 + 3, none⟩ = some (.int .i64 (y.hi : Int)) ∧ w.cell? ⟨g, k * 10 + 4, none⟩ = some (.bool y.rest) ∧ w.cell? ⟨g, k * 10 + 5, none⟩ = some (.int .i64 (y.mn : Int)) ∧ w.cell? ⟨g, k * 10 + 6, none⟩ = some (.int .i64 (y.mx : Int)) ∧ w.cell? ⟨g, k * 10 + 7, none⟩ = some (.int .i64 (y.t : Int)) ∧ w.cell? ⟨g, k * 10 + 8, none⟩ = some (.int .i64 y.out) ∧ w.cell? ⟨g, k * 10 + 9, none⟩ = some (.int .i64 y.inn) := by
  have cx : ∀ t, t < 10 → w.cell? ⟨g, k * 10 + t, none⟩ = (tsCells y)[t]? := fun t ht => own_ts h k y hy t ht
  exact ⟨cx 0 (by omega), cx 1 (by omega), cx 2 (by omega), cx 3 (by omega), cx 4 (by omega), cx 5 (by omega), cx 6 (by omega), cx 7 (by omega), cx 8 (by omega), cx 9 (by omega)⟩
theorem joined_list (s t : List UInt8) : Hx.joinedF ⟨s.toArray⟩ ⟨t.toArray⟩ = ⟨(Hx.joinB s t).toArray⟩ := by
  unfold Hx.joinedF Hx.joinB
  have e : (⟨s.toArray⟩ : ByteArray).toList.isEmpty = s.isEmpty := by
    rw [Lib.toList_data]
  rw [e]
  cases s with
  | nil => simp
  | cons a s =>
    simp only [List.isEmpty_cons, reduceCtorEq, if_false, Bool.false_eq_true]
    rw [show (⟨#[44]⟩ : ByteArray) = ⟨([44] : List UInt8).toArray⟩ from rfl, bytes_app, bytes_app]

end Go.Proofs.YtppcnlkhdgmaiaaGreatDoor
