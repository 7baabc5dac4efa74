/- What the document's helpers for orders do: with (a list with one number more, copied). -/
import Derived.Test.YtppcnlkhdgmaiaaGreatDoorRgA
namespace Go.Proofs.YtppcnlkhdgmaiaaGreatDoor
open Go.RowKit

def ints (xs : List Int) : List Value := xs.map (Value.int .i64)
theorem ints_snoc (xs : List Int) (n : Int) : ints (xs ++ [n]) = ints xs ++ [.int .i64 n] := by simp [ints]
theorem ints_len (xs : List Int) : (ints xs).length = xs.length := by simp [ints]
theorem ints_at (xs : List Int) (k : Nat) (x : Int) (h : xs[k]? = some x) : (ints xs)[k]? = some (.int .i64 x) := by simp [ints, h]
theorem ints_take (xs : List Int) (k : Nat) (x : Int) (h : xs[k]? = some x) : xs.take (k + 1) = xs.take k ++ [x] := by rw [List.take_add_one, h]; rfl

theorem Tryz.info3 : (Tryz.prog.info? 3).map (fun i => (i.zero, i.size, i.bytes)) = some (some (.int .i64 0), 1, 8) := by kernel_rfl

theorem one_news (w : World) (x : Value) (T : TypeId) : ∀ (j : Nat) (u : Value), [x][j]? = some u → (w.alloc (.cells #[x] T)).cell? ((⟨w.heap.size, 0, none⟩ : Addr).add j) = some u := news_new w [x] T

set_option maxHeartbeats 2000000 in
theorem with_own (xs : List Int) (lv : Value) (n : Int) (w : World) (hx : w.ownsRow 0 3 1 lv xs.length (ints xs)) (hl : xs.length ≤ 1000) :
    Calls Tryz.prog 56 #[lv, .int .i64 n] w fun e w' => ∃ v, e = .returned v ∧ w'.ownsRow w.heap.size 3 1 v (xs.length + 1) (ints (xs ++ [n])) ∧ Below w.heap.size w w' := by
  obtain ⟨ao, cap, rfl⟩ := own_form hx
  have HX := hide hx
  clear hx
  obtain ⟨i0, hi, hz0, hz1, hz2⟩ := info_parts Tryz.info3
  have HI := hide hi
  have HZ0 := hide hz0
  have HZ1 := hide hz1
  have HZ2 := hide hz2
  clear hi hz0 hz1 hz2
  go_enter Tryz.func56, Tryz.ntmps56
  go_wp2_with fail
  go_loopg [5, 6] xs.length (fun gk m i wr => ∃ k : Nat, k ≤ xs.length ∧ gk = xs.length - k ∧ i = .int .i64 (k : Int) ∧ wr.ownsRow w.heap.size 3 1 m k (ints (xs.take k)) ∧ Below w.heap.size w wr)
  case atStart => exact ⟨0, Nat.zero_le _, rfl, rfl, World.ownsRow_nil _ _ _ _, Below.refl _ _⟩
  case round =>
    obtain ⟨k, hk, rfl, rfl, hown, hbe⟩ := hrel
    have HOWN := hide hown
    have HBE := hide hbe
    have hsz := hbe.size
    clear hown hbe
    by_cases hlt : k < xs.length
    · obtain ⟨g, cap2, e, _, hg⟩ := own_pos (unhide HX) (by omega)
      cases e
      obtain ⟨x, hxk⟩ : ∃ x, xs[k]? = some x := ⟨xs[k], List.getElem?_eq_getElem hlt⟩
      have cx : wr.cell? ⟨g, k, none⟩ = some (.int .i64 x) := by
        rw [(unhide HBE).cell (p := ⟨g, k, none⟩) hg, (unhide HX).cellAt k (by omega)]
        exact ints_at xs k x hxk
      have HXK := hide (ints_take xs k x hxk)
      clear hxk
      go_wp2_with (at_builtin; refine wpList_append_own _ rfl _ _ 64 rfl w.heap.size 3 i0 (.int .i64 0) 1 8 Tryz.underlying64 (unhide HI) (unhide HZ0) (unhide HZ1) (unhide HZ2) rfl (by decide) _ _ _ rfl ((unhide HOWN).alloc _) ⟨wr.heap.size, 0, none⟩ 1 1 [.int .i64 x] rfl rfl (one_news wr (.int .i64 x) 3) (by simp [Value.oneCell']) (by unfold maxLen; omega) (by omega) (by simp; omega) ?_; intro v' w1 hown' hgrow' _; have HO1 := hide hown'; have HG1 := hide hgrow'; clear hown' hgrow')
      go_roundg (xs.length - (k + 1))
      case measure => omega
      case rel =>
        refine ⟨k + 1, by omega, rfl, by go_num, ?_, ?_⟩
        · rw [unhide HXK, ints_snoc]; exact unhide HO1
        · exact ((unhide HBE).alloc hsz _).grown (unhide HG1) (by simp; omega) (fun j e => ((unhide HOWN).lt j e).1)
    · have hke : k = xs.length := by omega
      subst hke
      have HOWN2 : Hid (wr.ownsRow w.heap.size 3 1 u5 xs.length (ints xs)) := by
        have := unhide HOWN
        rw [List.take_length] at this
        exact this
      go_wp2_with (at_builtin; refine wpList_append_own _ rfl _ _ 64 rfl w.heap.size 3 i0 (.int .i64 0) 1 8 Tryz.underlying64 (unhide HI) (unhide HZ0) (unhide HZ1) (unhide HZ2) rfl (by decide) _ _ _ rfl ((unhide HOWN2).alloc _) ⟨wr.heap.size, 0, none⟩ 1 1 [.int .i64 n] rfl rfl (one_news wr (.int .i64 n) 3) (by simp [Value.oneCell']) (by unfold maxLen; omega) (by omega) (by simp; omega) ?_; intro v' w1 hown' hgrow' _; have HO1 := hide hown'; have HG1 := hide hgrow'; clear hown' hgrow')
      go_returns
      refine ⟨_, rfl, ?_, ?_⟩
      · rw [ints_snoc]; exact unhide HO1
      · exact ((unhide HBE).alloc hsz _).grown (unhide HG1) (by simp; omega) (fun j e => ((unhide HOWN2).lt j e).1)

end Go.Proofs.YtppcnlkhdgmaiaaGreatDoor
