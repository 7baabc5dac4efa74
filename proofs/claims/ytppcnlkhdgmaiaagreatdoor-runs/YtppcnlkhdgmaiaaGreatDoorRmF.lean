/- What the machine writes: a stint; what a Builder's WriteString keeps besides. -/
import Derived.Test.YtppcnlkhdgmaiaaGreatDoorRmE
import Derived.Test.YtppcnlkhdgmaiaaGreatDoorPlW
namespace Go.Proofs.YtppcnlkhdgmaiaaGreatDoor
open Go.RowKit

theorem belB {w W W2 : World} (hb : Below W.heap.size W W2) (h : Below w.heap.size w W) : Below w.heap.size w W2 := h.trans (hb.mono h.size)
theorem belW {w W W2 : World} (hb : Below w.heap.size W W2) (h : Below w.heap.size w W) : Below w.heap.size w W2 := h.trans hb
theorem cBel {w w2 : World} {p : Addr} {v : Value} (hb : Below w.heap.size w w2) (h : w.cell? p = some v) : w2.cell? p = some v := by
  rw [hb.cell (World.block_lt_of_cell? w p h)]; exact h
theorem bBel {w w2 : World} {k : Nat} {o : Obj} (hb : Below w.heap.size w w2) (h : w.heap[k]? = some o) : w2.heap[k]? = some o := (hb.block _ (lt_of_block h)).trans h
theorem cat3 (a b c : List UInt8) : (⟨a.toArray⟩ : ByteArray) ++ ⟨b.toArray⟩ ++ ⟨c.toArray⟩ = ⟨(a ++ b ++ c).toArray⟩ := by rw [bytes_app, bytes_app]

set_option maxRecDepth 100000 in
set_option maxHeartbeats 4000000 in
theorem stint_any (p : Nat × Option Nat) (w : World) (h1 : p.1 ≤ 3000000) (h2 : ∀ v, p.2 = some v → v ≤ 3000000) (ht : P10 w) :
    Calls Tryz.prog 66 #[.agg #[.int .i64 (p.1 : Int), .int .i64 ((p.2.getD 0 : Nat) : Int), .bool p.2.isSome]] w fun e w' => e = .returned (.string ⟨(Hx.stintB p).toArray⟩) ∧ Below w.heap.size w w' := by
  have HT := hide ht
  clear ht
  obtain ⟨a, o⟩ := p
  simp only at h1 h2 ⊢
  have la : (Lib.itoa (a : Int)).length ≤ 21 := Lib.itoa_length_le _ (by omega) (by omega)
  have n1 : ¬ 9223372036854775807 < (Lib.itoa (a : Int)).length + 1 := by omega
  cases o with
  | none =>
    have hcat : Hid ((⟨(Lib.itoa (a : Int)).toArray⟩ : ByteArray) ++ ⟨#[45]⟩ = ⟨(Hx.stintB (a, none)).toArray⟩) := by
      show _ = _
      rw [show (⟨#[45]⟩ : ByteArray) = ⟨([45] : List UInt8).toArray⟩ from rfl, bytes_app]
      simp [Hx.stintB]
    have HBE := hide (belA (.cells #[.int .i64 (a : Int), .int .i64 0, .bool false] 148) (Below.refl w.heap.size w))
    have HB := hide (blk_new w #[.int .i64 (a : Int), .int .i64 0, .bool false] 148)
    simp only [Option.getD_none, Option.isSome_none]
    go_enter Tryz.func66, Tryz.ntmps66
    go_upto_region 1 with fail
    simp only [Int.ofNat_zero] at *
    generalize hW : (w.alloc (.cells #[.int .i64 (a : Int), .int .i64 0, .bool false] 148)) = W at *
    have c0 : W.cell? ⟨w.heap.size, 0, none⟩ = some (.int .i64 (a : Int)) := blk_cell (unhide HB) 0
    go_wp2_with (go_at_call 51; refine (Tryz.strconv_Itoa _ (by omega) (by omega) _ ((unhide HT).below (unhide HBE))).mono ?_; rintro e w2 ⟨rfl, k, os, rfl⟩; have c2 : (Sort.grow (W.drewN k) os).cell? ⟨w.heap.size, 2, none⟩ = some (.bool false) := cG k os (blk_cell (unhide HB) 2))
    go_returns
    exact ⟨ret_str (unhide hcat), belG _ _ (unhide HBE)⟩
  | some v =>
    have hv := h2 v rfl
    have lb : (Lib.itoa (v : Int)).length ≤ 21 := Lib.itoa_length_le _ (by omega) (by omega)
    have n2 : ¬ 9223372036854775807 < (Lib.itoa (a : Int)).length + 1 + (Lib.itoa (v : Int)).length := by omega
    have hcat : Hid ((⟨(Lib.itoa (a : Int)).toArray⟩ : ByteArray) ++ ⟨#[45]⟩ ++ ⟨(Lib.itoa (v : Int)).toArray⟩ = ⟨(Hx.stintB (a, some v)).toArray⟩) := by
      show _ = _
      rw [show (⟨#[45]⟩ : ByteArray) = ⟨([45] : List UInt8).toArray⟩ from rfl, cat3]
      rfl
    have HBE := hide (belA (.cells #[.int .i64 (a : Int), .int .i64 (v : Int), .bool true] 148) (Below.refl w.heap.size w))
    have HB := hide (blk_new w #[.int .i64 (a : Int), .int .i64 (v : Int), .bool true] 148)
    simp only [Option.getD_some, Option.isSome_some]
    go_enter Tryz.func66, Tryz.ntmps66
    go_upto_region 1 with fail
    generalize hW : (w.alloc (.cells #[.int .i64 (a : Int), .int .i64 (v : Int), .bool true] 148)) = W at *
    have c0 : W.cell? ⟨w.heap.size, 0, none⟩ = some (.int .i64 (a : Int)) := blk_cell (unhide HB) 0
    go_upto_region 2 with (go_at_call 51; refine (Tryz.strconv_Itoa _ (by omega) (by omega) _ ((unhide HT).below (unhide HBE))).mono ?_; rintro e w2 ⟨rfl, k, os, hw2⟩; have HW2 := hide hw2; clear hw2)
    have hw2 := unhide HW2
    have HBE2 : Hid (Below w.heap.size w w2) := by rw [hw2]; exact belG _ _ (unhide HBE)
    have c2 : w2.cell? ⟨w.heap.size, 2, none⟩ = some (.bool true) := by rw [hw2]; exact cG k os (blk_cell (unhide HB) 2)
    have c1 : w2.cell? ⟨w.heap.size, 1, none⟩ = some (.int .i64 (v : Int)) := by rw [hw2]; exact cG k os (blk_cell (unhide HB) 1)
    clear hw2 HW2
    go_wp2_with (go_at_call 51; refine (Tryz.strconv_Itoa _ (by omega) (by omega) _ ((unhide HT).below (unhide HBE2))).mono ?_; rintro e w3 ⟨rfl, k3, os3, rfl⟩)
    go_returns
    exact ⟨ret_str (unhide hcat), belG _ _ (unhide HBE2)⟩

/-- What a write into a Builder leaves as it was: every block but its own and its row of bytes. -/
def KeptB (b : Nat) (w w' : World) : Prop := ∀ (k : Nat) (a : Array Value) (T : TypeId) (fr : Nat × Nat), w.heap[k]? = some (.cells a T fr) → T ≠ 5 → k ≠ b → w'.heap[k]? = some (.cells a T fr)
theorem cc_keep (B b : Nat) (bs : List Value) (w : World) (h : Lib.IsBuilder 123 5 B b bs w) :
    Calls Tryz.prog 77 #[.pointer (some ⟨b, 0, none⟩)] w fun e w' => e = .returned (.tuple #[]) ∧ (Lib.BuilderAt 123 5 B b (.pointer (some ⟨b, 0, none⟩)) bs w' ∧ Below B w w' ∧ KeptB b w w') := by
  rcases h with h | h
  · refine (cc_fresh b w h.cell0 h.shape h.frozen0).mono ?_
    rintro e w' ⟨rfl, rfl⟩
    exact ⟨rfl, h.used _, (Below.refl B w).setCell (p := ⟨b, 0, none⟩) h.1 _, fun k a T fr hk _ hne => blk_set_other hk hne _ _⟩
  · refine (cc_used b w h.cell0).mono ?_
    rintro e w' ⟨rfl, rfl⟩
    exact ⟨rfl, h, Below.refl B _, fun k a T fr hk _ _ => hk⟩

set_option maxHeartbeats 1000000 in
set_option maxRecDepth 100000 in
theorem ws_keep (B b : Nat) (bs : List Value) (s : ByteArray) (w : World) (h : Lib.IsBuilder 123 5 B b bs w) (hlen : bs.length + s.size ≤ 1000000) (hBw : B ≤ w.heap.size) :
    Calls Tryz.prog 50 #[.pointer (some ⟨b, 0, none⟩), .string s] w fun e w' => e = .returned (.tuple #[.int .i64 s.size, .nilIface]) ∧ (Lib.BuilderAt 123 5 B b (.pointer (some ⟨b, 0, none⟩)) (bs ++ Lib.strCells s) w' ∧ Below B w w' ∧ KeptB b w w') := by
  obtain ⟨i0, hi, hz0, hz1, hz2⟩ := info_parts infoB
  have HI := hide hi
  have HZ0 := hide hz0
  have HZ1 := hide hz1
  have HZ2 := hide hz2
  have HH := hide h
  clear hi hz0 hz1 hz2 h
  go_enter Tryz.func50, Tryz.ntmps50
  go_wp2_with (go_at_call 77; refine (cc_keep B b bs _ (unhide HH)).mono ?_)
  rintro e w1 ⟨rfl, ⟨hB, v, hbk, hown, hne⟩, hb1, hk1⟩
  have HK := hide hbk
  have HO := hide hown
  have HB1 := hide hb1
  have HK1 := hide hk1
  have c1 : w1.cell? ⟨b, 1, none⟩ = some v := blk_cell hbk 1
  have hsz := hb1.size
  clear hbk hown hb1 hk1
  go_wp2_with (at_builtin; refine Lib.wpList_append_own_string _ rfl _ _ 115 9 rfl B 5 i0 Tryz.underlying115 Tryz.underlying9 (unhide HI) (unhide HZ0) (unhide HZ1) (unhide HZ2) _ _ _ rfl (unhide HO) s rfl ?c3 ?c4 ?c5 ?_)
  case c3 => unfold maxLen; omega
  case c4 => omega
  case c5 => omega
  intro v' w2 hown' hgrow _
  have hb2 : w2.heap[b]? = some (.cells #[.pointer (some ⟨b, 0, none⟩), v] 123 (0, 0)) := by
    rw [hgrow.block b (lt_of_block (unhide HK)) (fun e => hne e.symm)]
    exact unhide HK
  have HK2 := hide hb2
  have HO2 := hide hown'
  have HG2 := hide hgrow
  have f1 : w2.frozen? ⟨b, 1, none⟩ = false := Lib.frozen_of_heap hb2 1
  have d1 : w2.cell? ⟨b, 1, none⟩ = some v := blk_cell hb2 1
  obtain ⟨ao, cap, rfl⟩ := own_form hown'
  clear hb2 hown' hgrow
  go_wp2_with fail
  go_ret2
  refine ⟨rfl, ?_, ?_, ?_⟩
  · exact Lib.BuilderAt.put (T := 123) (e := 5) hB (unhide HK2) (bs' := bs ++ Lib.strCells s) (by simpa [Lib.strCells_length] using unhide HO2) (by decide)
  · exact ((unhide HB1).grown (unhide HG2) (by omega) (fun k hk => ((unhide HO).lt k hk).1)).setCell (p := ⟨b, 1, none⟩) hB _
  · intro k a T fr hk hT hkb
    have q1 := unhide HK1 k a T fr hk hT hkb
    have q2 : w2.heap[k]? = some (.cells a T fr) := by
      rw [(unhide HG2).block k (lt_of_block q1) (fun e => own_not_box (unhide HO) q1 (fun e5 => hT e5.symm) e.symm)]
      exact q1
    exact blk_set_other q2 hkb _ _

/-- A Builder that holds these bytes. -/
def Bd (B b : Nat) (l : List UInt8) (w : World) : Prop := Lib.IsBuilder 123 5 B b (Lib.byteCells l) w
theorem Bd.below {B b : Nat} {l : List UInt8} {w w' : World} (hb : Below w.heap.size w w') (h : Bd B b l w) : Bd B b l w' := by
  rcases h with ⟨h1, v, h2, h3, h4⟩ | ⟨h1, v, h2, h3, h4⟩
  · exact Or.inl ⟨h1, v, bBel hb h2, own_below h3 hb, h4⟩
  · exact Or.inr ⟨h1, v, bBel hb h2, own_below h3 hb, h4⟩
theorem Bd.drew {B b : Nat} {l : List UInt8} {w : World} (h : Bd B b l w) : Bd B b l w.drew := Bd.below (Below.refl _ _).drew h
theorem Bd.drewN {B b : Nat} {l : List UInt8} {w : World} (n : Nat) (h : Bd B b l w) : Bd B b l (w.drewN n) := Bd.below (below_drewN (Below.refl _ _) n) h
theorem Bd.alloc {B b : Nat} {l : List UInt8} {w : World} (o : Obj) (h : Bd B b l w) : Bd B b l (w.alloc o) := Bd.below ((Below.refl _ _).alloc (Nat.le_refl _) o) h
theorem Bd.fresh (w : World) : Bd w.heap.size w.heap.size [] (w.alloc (.cells #[.pointer none, .slice none 0 0] 123)) :=
  Or.inl ⟨Nat.le_refl _, _, blk_new w _ _, World.ownsRow_nil _ _ _ _, by intro e; cases e⟩
theorem wsd_any (B b : Nat) (l : List UInt8) (s : ByteArray) (w : World) (h : Bd B b l w) (hlen : l.length + s.size ≤ 1000000) (hBw : B ≤ w.heap.size) :
    Calls Tryz.prog 50 #[.pointer (some ⟨b, 0, none⟩), .string s] w fun e w' => e = .returned (.tuple #[.int .i64 s.size, .nilIface]) ∧ Bd B b (l ++ s.data.toList) w' ∧ Below B w w' ∧ KeptB b w w' := by
  refine (ws_keep B b (Lib.byteCells l) s w h (by rw [Lib.byteCells_length]; exact hlen) hBw).mono ?_
  rintro e w' ⟨rfl, h1, h2, h3⟩
  refine ⟨rfl, ?_, h2, h3⟩
  rw [Lib.strCells_eq, ← Lib.byteCells_append] at h1
  exact Or.inr h1
theorem cK {b : Nat} {w w' : World} {k o : Nat} {a : Array Value} {T : TypeId} {fr : Nat × Nat} {v : Value} (hk : KeptB b w w') (h : w.heap[k]? = some (.cells a T fr)) (hT : T ≠ 5) (hne : k ≠ b) (hc : w.cell? ⟨k, o, none⟩ = some v) : w'.cell? ⟨k, o, none⟩ = some v := by
  have h2 := hk k a T fr h hT hne
  have e : w'.cell? ⟨k, o, none⟩ = w.cell? ⟨k, o, none⟩ := by simp [World.cell?, h, h2]
  rw [e]; exact hc

end Go.Proofs.YtppcnlkhdgmaiaaGreatDoor
