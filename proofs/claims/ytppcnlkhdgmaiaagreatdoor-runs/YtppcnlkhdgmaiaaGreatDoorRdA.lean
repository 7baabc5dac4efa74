/- What the reader's small calls do: ended, kind, take; over a reader that lies in one block of memory. -/
import Derived.Test.YtppcnlkhdgmaiaaGreatDoorProg
import Derived.Test.YtppcnlkhdgmaiaaGreatDoorPure
import Derived.WalkKit
import Derived.WalkSpells
import Derived.WalkLawsBesides
import Derived.Deep.QuietTactic
import Derived.BigQuiet
namespace Go.Proofs.YtppcnlkhdgmaiaaGreatDoor
open Go.RowKit

theorem hide {p : Prop} (h : p) : Hid p := h
theorem unhide {p : Prop} (h : Hid p) : p := h

/-- A reader's block: the text, how far it is read, whether it has failed. -/
def Rd (T : TypeId) (s : ByteArray) (b : Nat) (st : Hx.St) (w : World) : Prop := w.heap[b]? = some (.cells #[.string s, .int .i64 (st.pos : Int), .bool st.bad] T (0, 0))

theorem Rd.c0 {T s b st w} (h : Rd T s b st w) : w.cell? ⟨b, 0, none⟩ = some (.string s) := by
  have h : w.heap[b]? = _ := h
  simp [World.cell?, h]
theorem Rd.c1 {T s b st w} (h : Rd T s b st w) : w.cell? ⟨b, 1, none⟩ = some (.int .i64 (st.pos : Int)) := by
  have h : w.heap[b]? = _ := h
  simp [World.cell?, h]
theorem Rd.c2 {T s b st w} (h : Rd T s b st w) : w.cell? ⟨b, 2, none⟩ = some (.bool st.bad) := by
  have h : w.heap[b]? = _ := h
  simp [World.cell?, h]
theorem Rd.fz {T s b st w} (h : Rd T s b st w) (o : Nat) : w.frozen? ⟨b, o, none⟩ = false := by
  have h : w.heap[b]? = _ := h
  simp [World.frozen?, h]

set_option maxHeartbeats 400000 in
theorem ended_any (s : ByteArray) (b : Nat) (st : Hx.St) (w : World) (_hs : s.size ≤ 1000) (_hp : st.pos ≤ s.size) (hr : Rd 139 s b st w) :
    Calls Tryz.prog 64 #[.pointer (some ⟨b, 0, none⟩)] w fun e w' => e = .returned (.bool (decide (s.size ≤ st.pos))) ∧ ∃ n, w' = w.drewN n := by
  have c0 := hr.c0
  have c1 := hr.c1
  clear hr
  go_enter Tryz.func64, Tryz.ntmps64
  go_wp2
  go_quiet (fail)
  go_wp2
  go_ret
  exact ⟨by simp, _, rfl⟩

theorem ended_yes (s : ByteArray) (b : Nat) (st : Hx.St) (w : World) (hs : s.size ≤ 1000) (hp : st.pos ≤ s.size) (h : s.size ≤ st.pos) (hr : Rd 139 s b st w) :
    Calls Tryz.prog 64 #[.pointer (some ⟨b, 0, none⟩)] w fun e w' => e = .returned (.bool true) ∧ ∃ n, w' = w.drewN n :=
  (ended_any s b st w hs hp hr).mono fun _ _ ⟨he, hw⟩ => ⟨by rw [he]; simp [h], hw⟩
theorem ended_no (s : ByteArray) (b : Nat) (st : Hx.St) (w : World) (hs : s.size ≤ 1000) (hp : st.pos ≤ s.size) (h : st.pos < s.size) (hr : Rd 139 s b st w) :
    Calls Tryz.prog 64 #[.pointer (some ⟨b, 0, none⟩)] w fun e w' => e = .returned (.bool false) ∧ ∃ n, w' = w.drewN n :=
  (ended_any s b st w hs hp hr).mono fun _ _ ⟨he, hw⟩ => ⟨by rw [he]; simp; omega, hw⟩

theorem Rd.drewN {T s b st w} (h : Rd T s b st w) (n : Nat) : Rd T s b st (w.drewN n) := h

/-- The table of bytes, as it lies. -/
def Tab (w : World) : Prop := ∀ i : Nat, i < 128 → w.cell? ⟨1, i, none⟩ = some (.int .u8 (Hx.kindOf i : Int))

theorem ret_int {k : IntKind} {a b : Int} (h : a = b) : Ending.returned (.int k a) = .returned (.int k b) := by rw [h]

set_option maxHeartbeats 400000 in
theorem kind_any (s : ByteArray) (b : Nat) (st : Hx.St) (w : World) (_hs : s.size ≤ 1000) (hp : st.pos ≤ s.size) (ht : Tab w) (hr : Rd 139 s b st w) :
    Calls Tryz.prog 83 #[.pointer (some ⟨b, 0, none⟩)] w fun e w' => e = .returned (.int .u8 (Hx.kindOf (Hx.byteAt s st.pos) : Int)) ∧ ∃ n, w' = w.drewN n := by
  have c0 := hr.c0
  have c1 := hr.c1
  by_cases hlt : st.pos < s.size
  · have hlt' : Hid (st.pos < s.size) := hlt
    have hb : Hx.byteAt s st.pos = (s[st.pos]'hlt).toNat := Hx.byteAt_lt hlt
    have HB := (show Hid _ from hb)
    have HR := (show Hid _ from hr)
    by_cases h8 : 128 ≤ ((s[st.pos]'hlt).toNat : Int)
    · clear hb hr
      go_enter Tryz.func83, Tryz.ntmps83
      go_wp2
      go_quiet ((go_at_call 64; refine Calls.quiet_of (ended_no s b st _ _hs hp hlt' ?_); exact (Rd.drewN (Hid.out HR) _)))
      go_wp2
      go_ret
      exact ⟨ret_int (by rw [HB.out, Hx.kindOf_big (by omega)]; rfl), _, rfl⟩
    · have hd8 : decide (128 ≤ ((s[st.pos]'hlt).toNat : Int)) = false := by simp; omega
      have hc := ht (s[st.pos]'hlt).toNat (by omega)
      clear hb hr
      go_enter Tryz.func83, Tryz.ntmps83
      go_wp2
      go_quiet ((go_at_call 64; refine Calls.quiet_of (ended_no s b st _ _hs hp hlt' ?_); exact (Rd.drewN (Hid.out HR) _)))
      go_wp2
      go_quiet (fail)
      go_wp2
      go_ret
      exact ⟨ret_int (by rw [HB.out]), _, World.drewN_drewN ..⟩
  · have hge : Hid (s.size ≤ st.pos) := show _ ≤ _ by omega
    have HR := (show Hid _ from hr)
    clear hr
    go_enter Tryz.func83, Tryz.ntmps83
    go_wp2
    go_quiet ((go_at_call 64; refine Calls.quiet_of (ended_yes s b st _ _hs hp hge ?_); exact (Rd.drewN (Hid.out HR) _)))
    go_wp2
    go_ret
    exact ⟨ret_int (by rw [Hx.byteAt_ge (by omega), Hx.kindOf_big (by omega)]; rfl), _, rfl⟩

theorem Rd.set1 {T s b st w} (h : Rd T s b st w) (n : Nat) : Rd T s b ⟨n, st.bad⟩ (w.setCell ⟨b, 1, none⟩ (.int .i64 (n : Int))) := by
  have h : w.heap[b]? = _ := h
  simp [Rd, World.setCell, Array.getElem?_modify, h]
theorem Rd.set2 {T s b st w} (h : Rd T s b st w) (f : Bool) : Rd T s b ⟨st.pos, f⟩ (w.setCell ⟨b, 2, none⟩ (.bool f)) := by
  have h : w.heap[b]? = _ := h
  simp [Rd, World.setCell, Array.getElem?_modify, h]
theorem grown_set (w : World) (b o : Nat) (v : Value) : w.grownBy (w.setCell ⟨b, o, none⟩ v) (some b) :=
  ⟨rfl, rfl, rfl, by simp [World.setCell], fun k _ hne => Below.heap_setCell _ _ _ _ (fun e => hne (by rw [e]))⟩
theorem grown_drewN (w : World) (n : Nat) (row : Option Nat) : w.grownBy (w.drewN n) row := ⟨rfl, rfl, rfl, Nat.le_refl _, fun _ _ _ => rfl⟩
theorem grown_trans {a b c : World} {row : Option Nat} (h : a.grownBy b row) (k : b.grownBy c row) : a.grownBy c row :=
  ⟨k.os.trans h.os, k.tape.trans h.tape, k.output.trans h.output, Nat.le_trans h.size k.size, fun i hi hne => (k.block i (Nat.lt_of_lt_of_le hi h.size) hne).trans (h.block i hi hne)⟩

set_option maxHeartbeats 400000 in
theorem take_any (s : ByteArray) (b : Nat) (st : Hx.St) (c : Int) (cn : Nat) (w : World) (hs : s.size ≤ 1000) (hp : st.pos ≤ s.size) (hc : c = (cn : Int)) (hcn : cn < 256) (hr : Rd 139 s b st w) :
    Calls Tryz.prog 63 #[.pointer (some ⟨b, 0, none⟩), .int .u8 c] w fun e w' => e = .returned (.tuple #[]) ∧ Rd 139 s b (Hx.takeF s cn st) w' ∧ w.grownBy w' (some b) := by
  have c0 := hr.c0
  have c1 := hr.c1
  have c2 := hr.c2
  have f1 := hr.fz 1
  have f2 := hr.fz 2
  have HC := (show Hid (c = (cn : Int)) from hc)
  have HR := (show Hid (Rd 139 s b st w) from hr)
  clear hc hr
  obtain ⟨pos, bad⟩ := st
  simp only at c1 c2 hp
  cases bad
  · by_cases hlt : pos < s.size
    · have hlt' : Hid (pos < s.size) := hlt
      by_cases he : c = ((s[pos]'hlt).toNat : Int)
      · have hne : (((s[pos]'hlt).toNat : Int) != c) = false := by simp [he]
        have HE := (show Hid (c = ((s[pos]'hlt).toNat : Int)) from he)
        clear he
        go_enter Tryz.func63, Tryz.ntmps63
        go_wp2_with fail
        go_quiet ((go_at_call 64; refine Calls.quiet_of (ended_no s b ⟨pos, false⟩ _ hs hp hlt' ?_); exact (Rd.drewN (Hid.out HR) _)))
        go_wp2
        go_end0
        refine ⟨rfl, ?_, grown_trans (grown_drewN _ _ _) (grown_set _ _ _ _)⟩
        rw [Hx.takeF_yes rfl (by show Hx.byteAt s pos = cn; rw [Hx.byteAt_lt hlt]; have := HC.out; have := HE.out; omega)]
        exact Rd.set1 (Rd.drewN HR.out _) (pos + 1)
      · have hne : (((s[pos]'hlt).toNat : Int) != c) = true := by simp; exact fun h => he h.symm
        have HE := (show Hid (¬ c = ((s[pos]'hlt).toNat : Int)) from he)
        clear he
        go_enter Tryz.func63, Tryz.ntmps63
        go_wp2_with fail
        go_quiet ((go_at_call 64; refine Calls.quiet_of (ended_no s b ⟨pos, false⟩ _ hs hp hlt' ?_); exact (Rd.drewN (Hid.out HR) _)))
        go_wp2
        ((try simp only [Exit.inBlock, Exit.then]); refine bodyPost_ret (results_none rfl _ _ _) rfl ?_)
        refine ⟨rfl, ?_, grown_trans (grown_drewN _ _ _) (grown_set _ _ _ _)⟩
        rw [Hx.takeF_no (by show Hx.byteAt s pos ≠ cn; rw [Hx.byteAt_lt hlt]; have := HC.out; have := HE.out; omega)]
        exact Rd.set2 (Rd.drewN HR.out _) true
    · have hge : Hid (s.size ≤ pos) := show _ ≤ _ by omega
      go_enter Tryz.func63, Tryz.ntmps63
      go_wp2_with fail
      go_quiet ((go_at_call 64; refine Calls.quiet_of (ended_yes s b ⟨pos, false⟩ _ hs hp hge ?_); exact (Rd.drewN (Hid.out HR) _)))
      go_wp2
      ((try simp only [Exit.inBlock, Exit.then]); refine bodyPost_ret (results_none rfl _ _ _) rfl ?_)
      refine ⟨rfl, ?_, grown_trans (grown_drewN _ _ _) (grown_set _ _ _ _)⟩
      rw [Hx.takeF_no (by show Hx.byteAt s pos ≠ cn; rw [Hx.byteAt_ge hge]; omega)]
      exact Rd.set2 (Rd.drewN HR.out _) true
  · go_enter Tryz.func63, Tryz.ntmps63
    go_wp2_with fail
    go_quiet (fail)
    go_wp2
    ((try simp only [Exit.inBlock, Exit.then]); refine bodyPost_ret (results_none rfl _ _ _) rfl ?_)
    refine ⟨rfl, ?_, grown_trans (grown_drewN _ _ _) (grown_set _ _ _ _)⟩
    rw [Hx.takeF_bad rfl]
    exact Rd.set2 (Rd.drewN HR.out _) true

end Go.Proofs.YtppcnlkhdgmaiaaGreatDoor
