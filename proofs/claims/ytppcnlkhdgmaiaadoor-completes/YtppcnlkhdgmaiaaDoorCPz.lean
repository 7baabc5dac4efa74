/- What the machine's run does. What the machine writes: a stint; what a Builder's WriteString keeps besides. Plain mathematics of writing a timetable: step by step; how long it is; where the plates stay. The program's Itoa, as it is used here. The plain mathematics of the machine: what it comes to, look by look, is what the document says, step by step, of a right table. No program is named here. -/
import Derived.Test.YtppcnlkhdgmaiaaDoorCRmD
import Derived.Test.YtppcnlkhdgmaiaaDoorCPs
import Derived.Test.YtppcnlkhdgmaiaaDoorCRmA
namespace Go.Proofs.YtppcnlkhdgmaiaaDoor
open Go.RowKit

theorem lookM_time {l : List Hx.TStp} {J : Nat} {takes : List Nat} : ∀ (n : Nat) (m : Hx.Ms), Hx.muM l m = n → (Hx.lookM l J takes m).2.time = m.time := by
  intro n
  induction n using Nat.strongRecOn with
  | ind n ih =>
    intro m hn
    cases ho : Hx.oneM l J takes m with
    | mk r m' =>
      have ht := Hx.oneM_time ho
      cases r with
      | none =>
        rw [Hx.lookM_none ho, ih _ (by have := Hx.oneM_mu ho; omega) m' rfl]
        exact ht
      | some e => rw [Hx.lookM_some ho]; exact ht
theorem MOk.later {l m} (h : MOk l m) (c : Nat) (hc : m.time + c ≤ 1000000) : MOk l { m with time := m.time + c } := ⟨h.work, h.free, hc, h.sts, h.rb, h.rbs⟩
theorem Mem.later {h w0 w m sv xs} (x : Mem h w0 w m sv xs) (s : Stat h w0) (c : Nat) : Mem h w0 (w.setCell ⟨h.b, 4, none⟩ (.int .i64 ((m.time : Int) + (c : Int)))) { m with time := m.time + c } sv xs := by
  have := x.put s 4 (.int .i64 ((m.time + c : Nat) : Int)) { m with time := m.time + c } sv rfl x.row
  rw [Int.natCast_add] at this
  exact this

set_option maxRecDepth 100000 in
set_option maxHeartbeats 4000000 in
theorem mrun_any (h : Mh) (w0 w : World) (m : Hx.Ms) (sv : Value) (hs : Stat h w0) (hm : Mem h w0 w m sv (stsCells m.sts)) (ho : MOk h.l m) (ht : m.time + h.clock.sum ≤ 1000000) :
    Calls Tryd.prog 43 #[.pointer (some ⟨h.b, 0, none⟩)] w fun e w' => e = .returned (.int .i64 ((Hx.runM h.l h.J h.takes h.clock (Hx.lookM h.l h.J h.takes m)).1 : Int)) ∧ ∃ sv', Mem h w0 w' (Hx.runM h.l h.J h.takes h.clock (Hx.lookM h.l h.J h.takes m)).2 sv' (stsCells (Hx.runM h.l h.J h.takes h.clock (Hx.lookM h.l h.J h.takes m)).2.sts) := by
  have HL := hide (mlook_any h w0 w m sv hs hm ho)
  have hok0 := lookM_ok (J := h.J) hs.kn _ m rfl ho
  have htm0 := lookM_time (l := h.l) (J := h.J) (takes := h.takes) _ m rfl
  obtain ⟨R, hR⟩ : ∃ R, R = Hx.runM h.l h.J h.takes h.clock (Hx.lookM h.l h.J h.takes m) := ⟨_, rfl⟩
  rw [← hR]
  obtain ⟨r0, hr0⟩ : ∃ r0, r0 = Hx.lookM h.l h.J h.takes m := ⟨_, rfl⟩
  rw [← hr0] at HL hok0 htm0 hR
  have HR := hide hR
  have HOK0 := hide hok0
  have hsum : r0.2.time + (h.clock.drop 0).sum ≤ 1000000 := by rw [htm0, List.drop_zero]; exact ht
  have HSUM := hide hsum
  have HS := hide hs
  have hcl := hs.cl
  obtain ⟨ac, capc, ecv⟩ := own_form hs.c
  have HEC := hide ecv
  clear hs hm ho ht hR hok0 htm0 hr0 hsum ecv
  go_enter Tryd.func43, Tryd.ntmps43
  go_wp2_with (go_at_call 63; refine (unhide HL).mono ?_; rintro e w1 ⟨rfl, sv1, hm1⟩; have c2 : w1.cell? ⟨h.b, 2, none⟩ = some h.cv := blk_cell hm1.blk 2; rw [unhide HEC] at c2; have HM1 := hide hm1; clear hm1)
  clear HL
  go_loopg [3, 14] h.clock.length (fun gk s3 ii wr => ∃ (k : Nat) (r : Nat × Hx.Ms) (sv2 : Value), k ≤ h.clock.length ∧ gk = h.clock.length - k ∧ ii = .int .i64 (k : Int) ∧ s3 = .int .i64 (r.1 : Int) ∧ Mem h w0 wr r.2 sv2 (stsCells r.2.sts) ∧ MOk h.l r.2 ∧ r.2.time + (h.clock.drop k).sum ≤ 1000000 ∧ Hx.runM h.l h.J h.takes (h.clock.drop k) r = R)
  case atStart => exact ⟨0, r0, _, Nat.zero_le _, rfl, rfl, rfl, unhide HM1, unhide HOK0, unhide HSUM, (unhide HR).symm⟩
  case round =>
    clear c2 HM1 HOK0 HSUM HR
    obtain ⟨k, r, sv2, hk, rfl, rfl, rfl, hm, hok, hsum, hfin⟩ := hrel
    have HM := hide hm
    have HOK := hide hok
    by_cases hlt : k < h.clock.length
    · obtain ⟨c, hc⟩ : ∃ c, h.clock[k]? = some c := ⟨_, List.getElem?_eq_getElem hlt⟩
      have hdr : h.clock.drop k = c :: h.clock.drop (k + 1) := by
        obtain ⟨hk2, e⟩ := List.getElem?_eq_some_iff.1 hc
        rw [List.drop_eq_getElem_cons hk2, e]
      rw [hdr] at hsum hfin
      rw [List.sum_cons] at hsum
      have hltI : (k : Int) < (h.clock.length : Int) := by omega
      obtain ⟨gc, capc2, ec2, _, _⟩ := own_pos (hm.ck (unhide HS)) (by omega)
      have cc : wr.cell? ⟨gc, k, none⟩ = some (.int .i64 (c : Int)) := by
        have hrow := hm.ck (unhide HS)
        rw [ec2] at hrow
        rw [hrow.cellAt k (by omega)]
        exact ints_at _ _ _ (nats_at _ _ _ hc)
      rw [unhide HEC] at ec2
      cases ec2
      have c4 : wr.cell? ⟨h.b, 4, none⟩ = some (.int .i64 (r.2.time : Int)) := blk_cell hm.blk 4
      have f4 := blk_free hm.blk 4
      by_cases h0 : r.1 = 0
      · rw [Hx.runM_cons h0] at hfin
        have h0I : ((r.1 : Int) != 0) = false := by simp [h0]
        have hok2 := hok.later c (by omega)
        have HL2 := hide (fun W hW => mlook_any h w0 W { r.2 with time := r.2.time + c } sv2 (unhide HS) hW hok2)
        have hok3 := lookM_ok (J := h.J) (unhide HS).kn _ _ rfl hok2
        have htm3 := lookM_time (l := h.l) (J := h.J) (takes := h.takes) _ { r.2 with time := r.2.time + c } rfl
        obtain ⟨r2, hr2⟩ : ∃ r2, r2 = Hx.lookM h.l h.J h.takes { r.2 with time := r.2.time + c } := ⟨_, rfl⟩
        rw [← hr2] at hfin hok3 htm3 HL2
        simp only at htm3
        have HFIN := hide hfin
        have HOK3 := hide hok3
        have hsum2 : r2.2.time + (h.clock.drop (k + 1)).sum ≤ 1000000 := by rw [htm3]; omega
        have HSUM2 := hide hsum2
        have htb : r.2.time ≤ 1000000 ∧ c ≤ 1000000 := by omega
        have hML := (unhide HM).later (unhide HS) c
        have HML := hide hML
        clear hm hok hfin hok2 hok3 htm3 hr2 hsum2 h0 hsum hdr hc hML
        go_wp2_with (go_at_call 63; refine (unhide HL2 _ (unhide HML)).mono ?_; rintro e w3 ⟨rfl, sv3, hm3⟩; have HM3 := hide hm3; clear hm3)
        go_roundg (h.clock.length - (k + 1))
        case measure => omega
        case rel => exact ⟨k + 1, r2, sv3, by omega, rfl, by go_num, rfl, unhide HM3, unhide HOK3, unhide HSUM2, unhide HFIN⟩
      · have h0I : ((r.1 : Int) != 0) = true := by simp; omega
        have HF : Hid (r = R) := by show _ = _; rw [← hfin, Hx.runM_end h0]
        clear hm hok hfin h0 hsum hdr hc
        go_wp2_with fail
        go_returns
        rw [← unhide HF]
        exact ⟨rfl, _, unhide HM⟩
    · have HF : Hid (r = R) := by
        show _ = _
        rw [← hfin, List.drop_eq_nil_iff.2 (by omega)]; rfl
      have hltI : ¬ (k : Int) < (h.clock.length : Int) := by omega
      clear hm hok hfin hsum
      go_wp2_with fail
      go_returns
      rw [← unhide HF]
      exact ⟨rfl, _, unhide HM⟩

end Go.Proofs.YtppcnlkhdgmaiaaDoor
namespace Go.Proofs.YtppcnlkhdgmaiaaDoor
open Go.RowKit

theorem belB {w W W2 : World} (hb : Below W.heap.size W W2) (h : Below w.heap.size w W) : Below w.heap.size w W2 := h.trans (hb.mono h.size)
theorem belW {w W W2 : World} (hb : Below w.heap.size W W2) (h : Below w.heap.size w W) : Below w.heap.size w W2 := h.trans hb
theorem cBel {w w2 : World} {p : Addr} {v : Value} (hb : Below w.heap.size w w2) (h : w.cell? p = some v) : w2.cell? p = some v := by
  rw [hb.cell (World.block_lt_of_cell? w p h)]; exact h
theorem bBel {w w2 : World} {k : Nat} {o : Obj} (hb : Below w.heap.size w w2) (h : w.heap[k]? = some o) : w2.heap[k]? = some o := (hb.block _ (lt_of_block h)).trans h
theorem cat3 (a b c : List UInt8) : (⟨a.toArray⟩ : ByteArray) ++ ⟨b.toArray⟩ ++ ⟨c.toArray⟩ = ⟨(a ++ b ++ c).toArray⟩ := by rw [bytes_app, bytes_app]

set_option maxRecDepth 100000 in
set_option maxHeartbeats 4000000 in
theorem stint_any (p : Nat × Option Nat) (w : World) (h1 : p.1 ≤ 3000000) (h2 : ∀ v, p.2 = some v → v ≤ 3000000) (ht : P10 w) :
    Calls Tryd.prog 64 #[.agg #[.int .i64 (p.1 : Int), .int .i64 ((p.2.getD 0 : Nat) : Int), .bool p.2.isSome]] w fun e w' => e = .returned (.string ⟨(Hx.stintB p).toArray⟩) ∧ Below w.heap.size w w' := by
  have HT := hide ht
  clear ht
  obtain ⟨a, o⟩ := p
  simp only at h1 h2 ⊢
  have la : (Lib.itoa (a : Int)).length ≤ 21 := Lib.itoa_length_le _ (by omega) (by omega)
  have n1 : ¬ 9223372036854775807 < (Lib.itoa (a : Int)).length + 1 := by omega
  cases o with
  | none =>
    have hcat : Hid ((⟨(Lib.itoa (a : Int)).toArray⟩ : ByteArray) ++ ⟨#[45]⟩ = ⟨(Hx.stintB (a, none)).toArray⟩) := by
      show _ = _
      rw [show (⟨#[45]⟩ : ByteArray) = ⟨([45] : List UInt8).toArray⟩ from rfl, bytes_app]
      simp [Hx.stintB]
    have HBE := hide (belA (.cells #[.int .i64 (a : Int), .int .i64 0, .bool false] 155) (Below.refl w.heap.size w))
    have HB := hide (blk_new w #[.int .i64 (a : Int), .int .i64 0, .bool false] 155)
    simp only [Option.getD_none, Option.isSome_none]
    go_enter Tryd.func64, Tryd.ntmps64
    go_upto_region 1 with fail
    simp only [Int.ofNat_zero] at *
    generalize hW : (w.alloc (.cells #[.int .i64 (a : Int), .int .i64 0, .bool false] 155)) = W at *
    have c0 : W.cell? ⟨w.heap.size, 0, none⟩ = some (.int .i64 (a : Int)) := blk_cell (unhide HB) 0
    go_wp2_with (go_at_call 53; refine (Tryd.strconv_Itoa _ (by omega) (by omega) _ ((unhide HT).below (unhide HBE))).mono ?_; rintro e w2 ⟨rfl, k, os, rfl⟩; have c2 : (Sort.grow (W.drewN k) os).cell? ⟨w.heap.size, 2, none⟩ = some (.bool false) := cG k os (blk_cell (unhide HB) 2))
    go_returns
    exact ⟨ret_str (unhide hcat), belG _ _ (unhide HBE)⟩
  | some v =>
    have hv := h2 v rfl
    have lb : (Lib.itoa (v : Int)).length ≤ 21 := Lib.itoa_length_le _ (by omega) (by omega)
    have n2 : ¬ 9223372036854775807 < (Lib.itoa (a : Int)).length + 1 + (Lib.itoa (v : Int)).length := by omega
    have hcat : Hid ((⟨(Lib.itoa (a : Int)).toArray⟩ : ByteArray) ++ ⟨#[45]⟩ ++ ⟨(Lib.itoa (v : Int)).toArray⟩ = ⟨(Hx.stintB (a, some v)).toArray⟩) := by
      show _ = _
      rw [show (⟨#[45]⟩ : ByteArray) = ⟨([45] : List UInt8).toArray⟩ from rfl, cat3]
      rfl
    have HBE := hide (belA (.cells #[.int .i64 (a : Int), .int .i64 (v : Int), .bool true] 155) (Below.refl w.heap.size w))
    have HB := hide (blk_new w #[.int .i64 (a : Int), .int .i64 (v : Int), .bool true] 155)
    simp only [Option.getD_some, Option.isSome_some]
    go_enter Tryd.func64, Tryd.ntmps64
    go_upto_region 1 with fail
    generalize hW : (w.alloc (.cells #[.int .i64 (a : Int), .int .i64 (v : Int), .bool true] 155)) = W at *
    have c0 : W.cell? ⟨w.heap.size, 0, none⟩ = some (.int .i64 (a : Int)) := blk_cell (unhide HB) 0
    go_upto_region 2 with (go_at_call 53; refine (Tryd.strconv_Itoa _ (by omega) (by omega) _ ((unhide HT).below (unhide HBE))).mono ?_; rintro e w2 ⟨rfl, k, os, hw2⟩; have HW2 := hide hw2; clear hw2)
    have hw2 := unhide HW2
    have HBE2 : Hid (Below w.heap.size w w2) := by rw [hw2]; exact belG _ _ (unhide HBE)
    have c2 : w2.cell? ⟨w.heap.size, 2, none⟩ = some (.bool true) := by rw [hw2]; exact cG k os (blk_cell (unhide HB) 2)
    have c1 : w2.cell? ⟨w.heap.size, 1, none⟩ = some (.int .i64 (v : Int)) := by rw [hw2]; exact cG k os (blk_cell (unhide HB) 1)
    clear hw2 HW2
    go_wp2_with (go_at_call 53; refine (Tryd.strconv_Itoa _ (by omega) (by omega) _ ((unhide HT).below (unhide HBE2))).mono ?_; rintro e w3 ⟨rfl, k3, os3, rfl⟩)
    go_returns
    exact ⟨ret_str (unhide hcat), belG _ _ (unhide HBE2)⟩

/-- What a write into a Builder leaves as it was: every block but its own and its row of bytes. -/
def KeptB (b : Nat) (w w' : World) : Prop := ∀ (k : Nat) (a : Array Value) (T : TypeId) (fr : Nat × Nat), w.heap[k]? = some (.cells a T fr) → T ≠ 5 → k ≠ b → w'.heap[k]? = some (.cells a T fr)
theorem cc_keep (B b : Nat) (bs : List Value) (w : World) (h : Lib.IsBuilder 135 5 B b bs w) :
    Calls Tryd.prog 74 #[.pointer (some ⟨b, 0, none⟩)] w fun e w' => e = .returned (.tuple #[]) ∧ (Lib.BuilderAt 135 5 B b (.pointer (some ⟨b, 0, none⟩)) bs w' ∧ Below B w w' ∧ KeptB b w w') := by
  rcases h with h | h
  · refine (cc_fresh b w h.cell0 h.shape h.frozen0).mono ?_
    rintro e w' ⟨rfl, rfl⟩
    exact ⟨rfl, h.used _, (Below.refl B w).setCell (p := ⟨b, 0, none⟩) h.1 _, fun k a T fr hk _ hne => blk_set_other hk hne _ _⟩
  · refine (cc_used b w h.cell0).mono ?_
    rintro e w' ⟨rfl, rfl⟩
    exact ⟨rfl, h, Below.refl B _, fun k a T fr hk _ _ => hk⟩

set_option maxHeartbeats 1000000 in
set_option maxRecDepth 100000 in
theorem ws_keep (B b : Nat) (bs : List Value) (s : ByteArray) (w : World) (h : Lib.IsBuilder 135 5 B b bs w) (hlen : bs.length + s.size ≤ 1000000) (hBw : B ≤ w.heap.size) :
    Calls Tryd.prog 52 #[.pointer (some ⟨b, 0, none⟩), .string s] w fun e w' => e = .returned (.tuple #[.int .i64 s.size, .nilIface]) ∧ (Lib.BuilderAt 135 5 B b (.pointer (some ⟨b, 0, none⟩)) (bs ++ Lib.strCells s) w' ∧ Below B w w' ∧ KeptB b w w') := by
  obtain ⟨i0, hi, hz0, hz1, hz2⟩ := info_parts infoB
  have HI := hide hi
  have HZ0 := hide hz0
  have HZ1 := hide hz1
  have HZ2 := hide hz2
  have HH := hide h
  clear hi hz0 hz1 hz2 h
  go_enter Tryd.func52, Tryd.ntmps52
  go_wp2_with (go_at_call 74; refine (cc_keep B b bs _ (unhide HH)).mono ?_)
  rintro e w1 ⟨rfl, ⟨hB, v, hbk, hown, hne⟩, hb1, hk1⟩
  have HK := hide hbk
  have HO := hide hown
  have HB1 := hide hb1
  have HK1 := hide hk1
  have c1 : w1.cell? ⟨b, 1, none⟩ = some v := blk_cell hbk 1
  have hsz := hb1.size
  clear hbk hown hb1 hk1
  go_wp2_with (at_builtin; refine Lib.wpList_append_own_string _ rfl _ _ 127 9 rfl B 5 i0 Tryd.underlying127 Tryd.underlying9 (unhide HI) (unhide HZ0) (unhide HZ1) (unhide HZ2) _ _ _ rfl (unhide HO) s rfl ?c3 ?c4 ?c5 ?_)
  case c3 => unfold maxLen; omega
  case c4 => omega
  case c5 => omega
  intro v' w2 hown' hgrow _
  have hb2 : w2.heap[b]? = some (.cells #[.pointer (some ⟨b, 0, none⟩), v] 135 (0, 0)) := by
    rw [hgrow.block b (lt_of_block (unhide HK)) (fun e => hne e.symm)]
    exact unhide HK
  have HK2 := hide hb2
  have HO2 := hide hown'
  have HG2 := hide hgrow
  have f1 : w2.frozen? ⟨b, 1, none⟩ = false := Lib.frozen_of_heap hb2 1
  have d1 : w2.cell? ⟨b, 1, none⟩ = some v := blk_cell hb2 1
  obtain ⟨ao, cap, rfl⟩ := own_form hown'
  clear hb2 hown' hgrow
  go_wp2_with fail
  go_ret2
  refine ⟨rfl, ?_, ?_, ?_⟩
  · exact Lib.BuilderAt.put (T := 135) (e := 5) hB (unhide HK2) (bs' := bs ++ Lib.strCells s) (by simpa [Lib.strCells_length] using unhide HO2) (by decide)
  · exact ((unhide HB1).grown (unhide HG2) (by omega) (fun k hk => ((unhide HO).lt k hk).1)).setCell (p := ⟨b, 1, none⟩) hB _
  · intro k a T fr hk hT hkb
    have q1 := unhide HK1 k a T fr hk hT hkb
    have q2 : w2.heap[k]? = some (.cells a T fr) := by
      rw [(unhide HG2).block k (lt_of_block q1) (fun e => own_not_box (unhide HO) q1 (fun e5 => hT e5.symm) e.symm)]
      exact q1
    exact blk_set_other q2 hkb _ _

/-- A Builder that holds these bytes. -/
def Bd (B b : Nat) (l : List UInt8) (w : World) : Prop := Lib.IsBuilder 135 5 B b (Lib.byteCells l) w
theorem Bd.below {B b : Nat} {l : List UInt8} {w w' : World} (hb : Below w.heap.size w w') (h : Bd B b l w) : Bd B b l w' := by
  rcases h with ⟨h1, v, h2, h3, h4⟩ | ⟨h1, v, h2, h3, h4⟩
  · exact Or.inl ⟨h1, v, bBel hb h2, own_below h3 hb, h4⟩
  · exact Or.inr ⟨h1, v, bBel hb h2, own_below h3 hb, h4⟩
theorem Bd.drew {B b : Nat} {l : List UInt8} {w : World} (h : Bd B b l w) : Bd B b l w.drew := Bd.below (Below.refl _ _).drew h
theorem Bd.drewN {B b : Nat} {l : List UInt8} {w : World} (n : Nat) (h : Bd B b l w) : Bd B b l (w.drewN n) := Bd.below (below_drewN (Below.refl _ _) n) h
theorem Bd.alloc {B b : Nat} {l : List UInt8} {w : World} (o : Obj) (h : Bd B b l w) : Bd B b l (w.alloc o) := Bd.below ((Below.refl _ _).alloc (Nat.le_refl _) o) h
theorem Bd.fresh (w : World) : Bd w.heap.size w.heap.size [] (w.alloc (.cells #[.pointer none, .slice none 0 0] 135)) :=
  Or.inl ⟨Nat.le_refl _, _, blk_new w _ _, World.ownsRow_nil _ _ _ _, by intro e; cases e⟩
theorem wsd_any (B b : Nat) (l : List UInt8) (s : ByteArray) (w : World) (h : Bd B b l w) (hlen : l.length + s.size ≤ 1000000) (hBw : B ≤ w.heap.size) :
    Calls Tryd.prog 52 #[.pointer (some ⟨b, 0, none⟩), .string s] w fun e w' => e = .returned (.tuple #[.int .i64 s.size, .nilIface]) ∧ Bd B b (l ++ s.data.toList) w' ∧ Below B w w' ∧ KeptB b w w' := by
  refine (ws_keep B b (Lib.byteCells l) s w h (by rw [Lib.byteCells_length]; exact hlen) hBw).mono ?_
  rintro e w' ⟨rfl, h1, h2, h3⟩
  refine ⟨rfl, ?_, h2, h3⟩
  rw [Lib.strCells_eq, ← Lib.byteCells_append] at h1
  exact Or.inr h1
theorem cK {b : Nat} {w w' : World} {k o : Nat} {a : Array Value} {T : TypeId} {fr : Nat × Nat} {v : Value} (hk : KeptB b w w') (h : w.heap[k]? = some (.cells a T fr)) (hT : T ≠ 5) (hne : k ≠ b) (hc : w.cell? ⟨k, o, none⟩ = some v) : w'.cell? ⟨k, o, none⟩ = some v := by
  have h2 := hk k a T fr h hT hne
  have e : w'.cell? ⟨k, o, none⟩ = w.cell? ⟨k, o, none⟩ := by simp [World.cell?, h, h2]
  rw [e]; exact hc

end Go.Proofs.YtppcnlkhdgmaiaaDoor
namespace Go.Proofs.YtppcnlkhdgmaiaaDoor
open Go.RowKit

/-- Where the plates stay behind these steps. -/
def Hx.wSt : List (Hx.Trn × Int) → List Int → List Int
  | [], st => st
  | (t, _) :: l, st => Hx.wSt l (Hx.sIn t (Hx.sOut t st))
theorem Hx.wSt_snoc (l : List (Hx.Trn × Int)) (t : Hx.Trn) (T : Int) (st : List Int) : Hx.wSt (l ++ [(t, T)]) st = Hx.sIn t (Hx.sOut t (Hx.wSt l st)) := by
  induction l generalizing st with
  | nil => rfl
  | cons a l ih => obtain ⟨a, b⟩ := a; exact ih _
theorem Hx.wAll_snoc (l : List (Hx.Trn × Int)) (t : Hx.Trn) (T : Int) (st : List Int) : Hx.wAll (l ++ [(t, T)]) st = Hx.wAll l st ++ (Hx.wHead t T ++ Hx.wOut t (Hx.wSt l st) ++ Hx.wIn t (Hx.sOut t (Hx.wSt l st))) := by
  induction l generalizing st with
  | nil => simp [Hx.wAll, Hx.wSt]
  | cons a l ih =>
    obtain ⟨a, b⟩ := a
    simp only [List.cons_append, Hx.wAll, Hx.wSt, ih, List.append_assoc]
/-- Places are within bounds. -/
def Hx.StOk (n : Nat) (st : List Int) : Prop := st.length = n ∧ ∀ z ∈ st, -1 ≤ z ∧ z ≤ 1000
theorem Hx.StOk.set {n : Nat} {st : List Int} (h : Hx.StOk n st) (p : Nat) (z : Int) (hz : -1 ≤ z ∧ z ≤ 1000) : Hx.StOk n (st.set p z) := by
  refine ⟨by rw [List.length_set]; exact h.1, fun y hy => ?_⟩
  rcases List.mem_or_eq_of_mem_set hy with hy | rfl
  · exact h.2 y hy
  · exact hz
theorem Hx.StOk.out {n : Nat} {st : List Int} (h : Hx.StOk n st) (t : Hx.Trn) : Hx.StOk n (Hx.sOut t st) := by
  unfold Hx.sOut; split
  · exact h.set _ _ (by omega)
  · exact h
theorem Hx.StOk.in_ {n : Nat} {st : List Int} (hn : n ≤ 1000) (h : Hx.StOk n st) (t : Hx.Trn) : Hx.StOk n (Hx.sIn t st) := by
  unfold Hx.sIn; split
  · have := (Hx.lowF_spec st).2.2
    have := h.1
    exact h.set _ _ (by omega)
  · exact h
theorem Hx.StOk.all {n : Nat} (hn : n ≤ 1000) : ∀ (l : List (Hx.Trn × Int)) (st : List Int), Hx.StOk n st → Hx.StOk n (Hx.wSt l st)
  | [], _, h => h
  | (t, _) :: l, _, h => Hx.StOk.all hn l _ ((h.out t).in_ hn t)
theorem Hx.StOk.start (n : Nat) : Hx.StOk n (List.replicate n (-1)) := ⟨by simp, fun z hz => by rw [(List.mem_replicate.1 hz).2]; omega⟩
theorem Hx.StOk.at_ {n : Nat} {st : List Int} (h : Hx.StOk n st) (p : Nat) : -1 ≤ st.getD p 0 ∧ st.getD p 0 ≤ 1000 := by
  rw [List.getD_eq_getElem?_getD]
  cases hp : st[p]? with
  | none => simp
  | some z => exact h.2 z (List.mem_of_getElem? hp)

theorem itoa_le {z : Int} (h1 : -1 ≤ z) (h2 : z ≤ 200000000) : (Lib.itoa z).length ≤ 21 := Lib.itoa_length_le _ (by omega) (by omega)
theorem bndB_le {a b : Nat} (ha : a < 1000) (hb : b < 1000) : (Hx.bndB a b).length ≤ 43 := by
  have h1 := itoa_le (z := (a : Int)) (by omega) (by omega)
  have h2 := itoa_le (z := (b : Int)) (by omega) (by omega)
  simp only [Hx.bndB, List.length_append, List.length_cons, List.length_nil]; omega
/-- A step of a protocol whose numbers are small. -/
structure Hx.TSm (n : Nat) (t : Hx.Trn) : Prop where
  pl : t.pl < n
  pl26 : t.pl < 26
  no : t.no < 10
  lo : t.x.lo < 1000
  hi : t.x.hi < 1000
  mn : t.x.mn < 1000
  mx : t.x.mx < 1000
theorem wHead_le {n : Nat} {t : Hx.Trn} (h : Hx.TSm n t) {T : Int} (h1 : 0 ≤ T) (h2 : T ≤ 200000000) : (Hx.wHead t T).length ≤ 70 := by
  have a := itoa_le (z := T) (by omega) (by omega)
  have b := bndB_le h.lo h.hi
  have c : (Hx.nameB t.pl t.no).data.toList.length = 2 := rfl
  simp only [Hx.wHead, List.length_append, List.length_cons, List.length_nil, c]; omega
theorem wOut_le {n : Nat} {t : Hx.Trn} (h : Hx.TSm n t) {st : List Int} (hs : Hx.StOk n st) : (Hx.wOut t st).length ≤ 70 := by
  have a := hs.at_ t.pl
  have a := itoa_le (z := st.getD t.pl 0) (by omega) (by omega)
  have b := bndB_le h.mn h.mx
  unfold Hx.wOut
  split
  · simp only [List.length_append, List.length_cons, List.length_nil]; omega
  · simp
theorem wIn_le {n : Nat} {t : Hx.Trn} {st : List Int} (hn : n ≤ 1000) (hs : Hx.StOk n st) : (Hx.wIn t st).length ≤ 22 := by
  have := (Hx.lowF_spec st).2.2
  have := hs.1
  have a := itoa_le (z := (Hx.lowF st : Int)) (by omega) (by omega)
  unfold Hx.wIn
  split
  · simp only [List.length_append, List.length_cons, List.length_nil]; omega
  · simp
theorem wAll_le {n : Nat} (hn : n ≤ 1000) : ∀ (l : List (Hx.Trn × Int)) (st : List Int), Hx.StOk n st → (∀ p ∈ l, Hx.TSm n p.1 ∧ 0 ≤ p.2 ∧ p.2 ≤ 200000000) → (Hx.wAll l st).length ≤ 200 * l.length
  | [], _, _, _ => by simp [Hx.wAll]
  | (t, T) :: l, st, hs, h => by
    obtain ⟨h1, h2, h3⟩ : Hx.TSm n t ∧ 0 ≤ T ∧ T ≤ 200000000 := h (t, T) (by simp)
    have a := wHead_le h1 h2 h3
    have b := wOut_le h1 hs
    have c := wIn_le (t := t) hn (hs.out t)
    have d := wAll_le hn l _ ((hs.out t).in_ hn t) (fun p hp => h p (by simp [hp]))
    simp only [Hx.wAll, List.length_append, List.length_cons]; omega

theorem Hx.pairs_len (o : List Hx.Trn) (f : Nat → Int) : (Hx.pairs o f).length = o.length := by simp [Hx.pairs]
theorem Hx.pairs_at {o : List Hx.Trn} {f : Nat → Int} {i : Nat} {t : Hx.Trn} (h : o[i]? = some t) : (Hx.pairs o f)[i]? = some (t, f i) := by simp [Hx.pairs, h]
theorem Hx.pairs_mem {o : List Hx.Trn} {f : Nat → Int} {p : Hx.Trn × Int} (h : p ∈ Hx.pairs o f) : ∃ i : Nat, i < o.length ∧ p.1 ∈ o ∧ p.2 = f i := by
  obtain ⟨i, hi, e⟩ := List.mem_iff_getElem.1 h
  rw [Hx.pairs_len] at hi
  have : (Hx.pairs o f)[i]? = some p := by rw [List.getElem?_eq_getElem (by rw [Hx.pairs_len]; exact hi), e]
  rw [Hx.pairs_at (List.getElem?_eq_getElem hi)] at this
  cases this
  exact ⟨i, hi, List.getElem_mem _, rfl⟩

theorem itoa_any (z : Int) (h1 : -1000 ≤ z) (h2 : z ≤ 1000000000) (w : World) (ht : P10 w) :
    Calls Tryd.prog 53 #[.int .i64 z] w fun e w' => e = .returned (.string ⟨(Lib.itoa z).toArray⟩) ∧ Below w.heap.size w w' := by
  refine (Tryd.strconv_Itoa z (by omega) (by omega) w ht).mono ?_
  rintro e w' ⟨rfl, k, os, rfl⟩
  exact ⟨rfl, belG _ _ (Below.refl _ _)⟩

end Go.Proofs.YtppcnlkhdgmaiaaDoor
namespace Go.Proofs.YtppcnlkhdgmaiaaDoor
namespace Hx

/-- Where a plate is in a place, both know when its rest began. -/
def Same (pre : List TStp) (rb over : List Int) : Prop := rb.length = 4 ∧ over.length = 4 ∧ ∀ p, 0 ≤ (holdF pre p).1 → rb.getD p 0 = over.getD p 0

theorem holdF_nil (p : Nat) : holdF [] p = (-1, 0) := rfl
theorem Same.start : Same [] [0, 0, 0, 0] [0, 0, 0, 0] := ⟨rfl, rfl, fun _ _ => rfl⟩
theorem getD_set {α : Type} (l : List α) (p q : Nat) (v d : α) (hp : p < l.length) : (l.set p v).getD q d = if q = p then v else l.getD q d := by
  rw [List.getD_eq_getElem?_getD, List.getElem?_set, List.getD_eq_getElem?_getD]
  by_cases e : p = q
  · subst e; simp [hp]
  · rw [if_neg e, if_neg (fun h => e h.symm)]
theorem Same.snoc {pre : List TStp} {rb over : List Int} (h : Same pre rb over) {x : TStp} (hx : x.pl < 4) (v : Int) : Same (pre ++ [x]) (if 0 ≤ x.inn then rb.set x.pl v else rb) (over.set x.pl v) := by
  obtain ⟨h1, h2, h3⟩ := h
  refine ⟨by split <;> simp [h1], by simp [h2], fun p hp => ?_⟩
  rw [holdF_snoc] at hp
  rw [getD_set over x.pl p v 0 (by omega)]
  by_cases e : x.pl = p
  · subst e
    rw [if_pos rfl] at hp
    rw [if_pos rfl, if_pos hp, getD_set rb x.pl x.pl v 0 (by omega), if_pos rfl]
  · rw [if_neg e] at hp
    have e' : ¬ p = x.pl := fun g => e g.symm
    rw [if_neg e']
    by_cases hi : 0 ≤ x.inn
    · rw [if_pos hi, getD_set rb x.pl p v 0 (by omega), if_neg e']; exact h3 p hp
    · rw [if_neg hi]; exact h3 p hp

/-- A right table, whose steps were read. -/
structure Right (l : List TStp) : Prop where
  ok : ∀ y ∈ l, TOk y
  right : ∀ k, k < l.length → rightF l k = true

theorem rest_held {l : List TStp} (h : Right l) {i : Nat} {x : TStp} (hx : l[i]? = some x) (hr : x.rest = true) : 0 ≤ (holdF (l.take i) x.pl).1 := by
  have hi : i < l.length := by
    rcases Nat.lt_or_ge i l.length with g | g
    · exact g
    · rw [List.getElem?_eq_none g] at hx; cases hx
  have h1 := h.right i hi
  simp only [rightF, hx, ownRight, Bool.and_eq_true] at h1
  have h2 : x.out = (holdF (l.take i) x.pl).1 := by simpa using h1.1.2
  have h3 := (h.ok x (List.mem_of_getElem? hx)).rest hr
  omega

theorem window_same {l : List TStp} (h : Right l) {i : Nat} {x : TStp} (hx : l[i]? = some x) {rb over : List Int} (hs : Same (l.take i) rb over) (t : Int) : windowB x (t - rb.getD x.pl 0) = windowB x (t - over.getD x.pl 0) := by
  cases hr : x.rest
  · simp [windowB, hr]
  · rw [hs.2.2 x.pl (rest_held h hx hr)]

/-- The looks that are left. -/
def Looks (L : List Int) (k : Nat) (t : Nat) (cs : List Nat) : Prop := L.drop k = sumsF t cs
theorem Looks.here {L : List Int} {k t : Nat} {cs : List Nat} (h : Looks L k t cs) : L[k]? = some (t : Int) := by
  have : (L.drop k)[0]? = some (t : Int) := by rw [h]; cases cs <;> rfl
  simpa using this
theorem Looks.next {L : List Int} {k t c : Nat} {cs : List Nat} (h : Looks L k t (c :: cs)) : Looks L (k + 1) (t + c) cs := by
  have : (L.drop k).drop 1 = sumsF (t + c) cs := by rw [h]; rfl
  rw [List.drop_drop] at this
  exact this
theorem Looks.last {L : List Int} {k t : Nat} (h : Looks L k t []) : L.length ≤ k + 1 := by
  have : (L.drop k).drop 1 = [] := by rw [h]; rfl
  rw [List.drop_drop] at this
  exact List.drop_eq_nil_iff.1 this

/-- The machine's state ahead of a case: it stands at step i. -/
structure Free (l : List TStp) (m : Ms) (over : List Int) : Prop where
  work : m.work = false
  len : m.sts.length = m.k
  le : m.k ≤ l.length
  same : Same (l.take m.k) m.rb over
structure Busy (l : List TStp) (m : Ms) (over : List Int) (x : TStp) (now : Nat) (pre : List (Nat × Option Nat)) : Prop where
  work : m.work = true
  at_ : l[m.k]? = some x
  sts : m.sts = pre ++ [(now, none)]
  len : pre.length = m.k
  same : Same (l.take m.k) m.rb over
  le : now ≤ m.time

theorem Busy.began {l m over x now pre} (h : Busy l m over x now pre) : beganM m = now := by
  have : m.sts.getD m.k (0, none) = (now, none) := by
    rw [List.getD_eq_getElem?_getD, h.sts, ← h.len, List.getElem?_append_right (Nat.le_refl _)]
    simp
  rw [beganM, this]
theorem Busy.setd {l m over x now pre} (h : Busy l m over x now pre) (e : Nat × Option Nat) : m.sts.set m.k e = pre ++ [e] := by
  rw [h.sts, ← h.len, List.set_append_right _ _ (Nat.le_refl _)]
  simp

theorem take_succ' {l : List TStp} {k : Nat} {x : TStp} (h : l[k]? = some x) : l.take (k + 1) = l.take k ++ [x] := by rw [List.take_add_one, h]; rfl
theorem drop_cons' {l : List TStp} {k : Nat} {x : TStp} (h : l[k]? = some x) : l.drop k = x :: l.drop (k + 1) := by
  obtain ⟨hk, e⟩ := List.getElem?_eq_some_iff.1 h
  rw [List.drop_eq_getElem_cons hk, e]
theorem drop_nil' {l : List TStp} {k : Nat} (h : l[k]? = none) : l.drop k = [] := List.drop_eq_nil_iff.2 (List.getElem?_eq_none_iff.1 h)
theorem nameAt_some {l : List TStp} {k : Nat} {x : TStp} (h : l[k]? = some x) : nameAt l k = nmB x.pl x.no := by simp only [nameAt, h]

theorem itoa_add (a b : Nat) : Lib.itoa ((a : Int) + (b : Int)) = Lib.itoa ((a + b : Nat) : Int) := by rw [Int.natCast_add]

theorem ent_open (l : List TStp) (pre : List (Nat × Option Nat)) (x : TStp) (now : Nat) (hx : l[pre.length]? = some x) : evB l (pre ++ [(now, none)]) = joinB (evB l pre) (nmB x.pl x.no ++ [58] ++ Lib.itoa (now : Int) ++ [45]) := by
  rw [evB_join l pre x (now, none) hx]
  simp [entB, stintB]
theorem ent_shut (l : List TStp) (pre : List (Nat × Option Nat)) (x : TStp) (now v : Nat) (hx : l[pre.length]? = some x) : evB l (pre ++ [(now, some v)]) = joinB (evB l pre) (nmB x.pl x.no ++ [58] ++ Lib.itoa (now : Int) ++ [45]) ++ Lib.itoa (v : Int) := by
  rw [evB_join l pre x (now, some v) hx, joinB_app]
  simp [entB, stintB]

/-- What the document says from a state on. -/
def SaysFree (l : List TStp) (J : Nat) (takes : List Nat) (L : List Int) (k : Nat) (m : Ms) (over : List Int) : List UInt8 := refGo L J takes (l.drop m.k) m.k k (evB l m.sts) over
def SaysBusy (l : List TStp) (J : Nat) (takes : List Nat) (L : List Int) (k : Nat) (m : Ms) (over : List Int) (x : TStp) (now : Nat) : List UInt8 :=
  refEnd L takes x m.k (now : Int) (evB l m.sts) k (fun e t o => refGo L J takes (l.drop (m.k + 1)) (m.k + 1) e t (over.set x.pl o))

theorem refEnd_next {L : List Int} {takes : List Nat} {x : TStp} {i k : Nat} {t now : Int} {told : List UInt8} {go : Nat → List UInt8 → Int → List UInt8} (h : L[k]? = some t) (h1 : ¬ now + (x.hi : Int) + 1 ≤ t) (h2 : i < takes.length → ¬ now + ((takes.getD i 0 : Nat) : Int) ≤ t) :
    refEnd L takes x i now told k go = refEnd L takes x i now told (k + 1) go := by
  unfold refEnd
  rw [firstF_next h h1]
  by_cases hi : i < takes.length
  · rw [if_pos hi, if_pos hi, firstF_next h (h2 hi)]
  · rw [if_neg hi, if_neg hi]

/-- What must hold where a look ends open. -/
def OpenSays (l : List TStp) (J : Nat) (takes : List Nat) (L : List Int) (cs : List Nat) : Prop := ∀ (m : Ms) (k : Nat) (over : List Int), Looks L k m.time cs →
    (∀ x, Free l m over → l[m.k]? = some x → m.time < x.t → tellF l (runM l J takes cs (0, m)) = SaysFree l J takes L k m over) ∧
    (∀ x now pre, Busy l m over x now pre → overM takes m = false → ¬ now + x.hi < m.time → tellF l (runM l J takes cs (0, m)) = SaysBusy l J takes L k m over x now)
def Says (l : List TStp) (J : Nat) (takes : List Nat) (L : List Int) (cs : List Nat) (m : Ms) : Prop := ∀ (k : Nat) (over : List Int), Looks L k m.time cs →
    (Free l m over → tellF l (runM l J takes cs (lookM l J takes m)) = SaysFree l J takes L k m over) ∧
    (∀ x now pre, Busy l m over x now pre → tellF l (runM l J takes cs (lookM l J takes m)) = SaysBusy l J takes L k m over x now)

theorem over_iff {takes : List Nat} {m : Ms} : overM takes m = true ↔ m.k < takes.length ∧ beganM m + takes.getD m.k 0 ≤ m.time := by simp [overM]
theorem not_over {takes : List Nat} {m : Ms} (h : overM takes m = false) (hk : m.k < takes.length) : ¬ beganM m + takes.getD m.k 0 ≤ m.time := fun g => by
  rw [over_iff.2 ⟨hk, g⟩] at h; cases h

theorem says_of_open {l : List TStp} (hr : Right l) (J : Nat) (takes : List Nat) (L : List Int) (cs : List Nat) (ho : OpenSays l J takes L cs) : ∀ (n : Nat) (m : Ms), muM l m = n → Says l J takes L cs m := by
  intro n
  induction n using Nat.strongRecOn with
  | ind n ih =>
    intro m hn k over hL
    have hk := hL.here
    refine ⟨fun hf => ?_, fun x now pre hb => ?_⟩
    · cases hx : l[m.k]? with
      | none =>
        have e1 : oneM l J takes m = (some 1, m) := by simp [oneM, hx, hf.work]
        rw [lookM_some e1, runM_end (by simp), SaysFree, drop_nil' hx]
        simp [tellF, refGo]
      | some x =>
        by_cases ht : m.time < x.t
        · have e1 : oneM l J takes m = (some 0, m) := by simp [oneM, hx, hf.work, ht]
          rw [lookM_some e1]
          exact (ho m k over hL).1 x hf hx ht
        · have e0 : oneM l J takes m = beginM J x m := by simp [oneM, hx, hf.work, ht]
          have hfi : firstF L (x.t : Int) k = (k : Int) := firstF_here hk (by omega)
          have hgd : L.getD k 0 = (m.time : Int) := by rw [List.getD_eq_getElem?_getD, hk]; rfl
          rw [SaysFree, drop_cons' hx, refGo, hfi, if_neg (by omega), Int.toNat_natCast, hgd]
          by_cases hl : x.t + J < m.time
          · have e1 : oneM l J takes m = (some 4, m) := by rw [e0, beginM, if_pos hl]
            rw [lookM_some e1, runM_end (by simp), if_pos (by omega)]
            simp [tellF, nameAt_some hx]
          · rw [if_neg (by omega), ← window_same hr hx hf.same]
            by_cases hw : windowB x ((m.time : Int) - m.rb.getD x.pl 0) = true
            · have e1 : oneM l J takes m = (some 5, m) := by rw [e0, beginM, if_neg hl, if_pos hw]
              rw [lookM_some e1, runM_end (by simp), if_pos hw]
              simp [tellF, nameAt_some hx]
            · have e1 : oneM l J takes m = (none, { m with sts := m.sts ++ [(m.time, none)], work := true }) := by rw [e0, beginM, if_neg hl, if_neg hw]
              have hmu := oneM_mu e1
              have hb : Busy l { m with sts := m.sts ++ [(m.time, none)], work := true } over x m.time m.sts := ⟨rfl, hx, rfl, hf.len, hf.same, Nat.le_refl _⟩
              rw [lookM_none e1, if_neg hw, (ih _ (Nat.lt_of_lt_of_eq hmu hn) _ rfl k over (show Looks L k ({ m with sts := m.sts ++ [(m.time, none)], work := true } : Ms).time cs from hL)).2 x m.time m.sts hb, SaysBusy]
              simp only
              rw [ent_open l m.sts x m.time (by rw [hf.len]; exact hx)]
    · have hx := hb.at_
      have hbe := hb.began
      have hxl : l[pre.length]? = some x := by rw [hb.len]; exact hx
      by_cases hov : overM takes m = true
      · obtain ⟨hk1, hk2⟩ := over_iff.1 hov
        rw [hbe] at hk2
        have e0 : oneM l J takes m = finishM x (takes.getD m.k 0) m := by simp [oneM, hx, hb.work, hov]
        have hfi : firstF L ((now : Int) + ((takes.getD m.k 0 : Nat) : Int)) k = (k : Int) := firstF_here hk (by omega)
        have hge := firstF_ge (L := L) (x := (now : Int) + (x.hi : Int) + 1) (L.length - k) k rfl
        have hno : ¬ ((k : Int) < 0 ∨ (0 ≤ firstF L ((now : Int) + (x.hi : Int) + 1) k ∧ firstF L ((now : Int) + (x.hi : Int) + 1) k < (k : Int))) := by omega
        rw [SaysBusy, refEnd]
        rw [if_pos hk1, hfi, if_neg hno, hb.sts, ent_open l pre x now hxl]
        by_cases hlo : takes.getD m.k 0 < x.lo
        · have e1 := e0
          rw [finishM, if_pos hlo] at e1
          rw [lookM_some e1, runM_end (by simp), if_pos hlo]
          simp only [tellF, nameAt_some hx, hbe, hb.setd]
          rw [ent_shut l pre x now _ hxl, itoa_add]
          simp
        · by_cases hhi : x.hi < takes.getD m.k 0
          · have e1 := e0
            rw [finishM, if_neg hlo, if_pos hhi] at e1
            rw [lookM_some e1, runM_end (by simp), if_neg hlo, if_pos hhi]
            simp only [tellF, nameAt_some hx, hbe, hb.setd]
            rw [ent_shut l pre x now _ hxl, itoa_add]
            simp
          · have e1 := e0
            rw [finishM, if_neg hlo, if_neg hhi, hbe, hb.setd] at e1
            have hmu := oneM_mu e1
            have hpl := (hr.ok x (List.mem_of_getElem? hx)).pl
            have hkl : m.k < l.length := (List.getElem?_eq_some_iff.1 hx).1
            rw [lookM_none e1, if_neg hlo, if_neg hhi]
            have hf : Free l { m with sts := pre ++ [(now, some (now + takes.getD m.k 0))], rb := if 0 ≤ x.inn then m.rb.set x.pl ((now + takes.getD m.k 0 : Nat) : Int) else m.rb, work := false, k := m.k + 1 } (over.set x.pl ((now + takes.getD m.k 0 : Nat) : Int)) := by
              refine ⟨rfl, ?_, hkl, ?_⟩
              · simp [hb.len]
              · show Same (l.take (m.k + 1)) _ _
                rw [take_succ' hx]
                exact hb.same.snoc hpl _
            rw [(ih _ (Nat.lt_of_lt_of_eq hmu hn) _ rfl k _ (show Looks L k ({ m with sts := pre ++ [(now, some (now + takes.getD m.k 0))], rb := if 0 ≤ x.inn then m.rb.set x.pl ((now + takes.getD m.k 0 : Nat) : Int) else m.rb, work := false, k := m.k + 1 } : Ms).time cs from hL)).1 hf, SaysFree]
            simp only
            rw [ent_shut l pre x now _ hxl, itoa_add, Int.toNat_natCast, Int.natCast_add]
      · have hov' : overM takes m = false := by simpa using hov
        have hnf : m.k < takes.length → ¬ (now : Int) + ((takes.getD m.k 0 : Nat) : Int) ≤ (m.time : Int) := fun g => by
          have := not_over hov' g
          rw [hbe] at this
          omega
        by_cases hlg : now + x.hi < m.time
        · have e1 : oneM l J takes m = (some 3, m) := by simp [oneM, hx, hb.work, hov', hbe, hlg]
          have hfi : firstF L ((now : Int) + (x.hi : Int) + 1) k = (k : Int) := firstF_here hk (by omega)
          rw [lookM_some e1, runM_end (by simp), SaysBusy, refEnd]
          have hc : (if m.k < takes.length then firstF L ((now : Int) + ((takes.getD m.k 0 : Nat) : Int)) k else -1) < 0 ∨ (0 ≤ firstF L ((now : Int) + (x.hi : Int) + 1) k ∧ firstF L ((now : Int) + (x.hi : Int) + 1) k < (if m.k < takes.length then firstF L ((now : Int) + ((takes.getD m.k 0 : Nat) : Int)) k else -1)) := by
            by_cases g : m.k < takes.length
            · rw [if_pos g, hfi, firstF_next hk (hnf g)]
              have := firstF_ge (L := L) (x := (now : Int) + ((takes.getD m.k 0 : Nat) : Int)) (L.length - (k + 1)) (k + 1) rfl
              omega
            · rw [if_neg g]; exact Or.inl (by omega)
          rw [if_pos hc, hfi, if_pos (by omega)]
          simp [tellF, nameAt_some hx]
        · have e1 : oneM l J takes m = (some 0, m) := by simp [oneM, hx, hb.work, hov', hbe, hlg]
          rw [lookM_some e1]
          exact (ho m k over hL).2 x now pre hb hov' hlg

theorem open_nil {l : List TStp} (J : Nat) (takes : List Nat) (L : List Int) : OpenSays l J takes L [] := by
  intro m k over hL
  have hk := hL.here
  have hend := hL.last
  refine ⟨fun x hf hx ht => ?_, fun x now pre hb hov hlg => ?_⟩
  · rw [SaysFree, drop_cons' hx, refGo, firstF_next hk (by omega), firstF_end hend, if_pos (by omega)]
    simp [runM, tellF]
  · have hnf : m.k < takes.length → ¬ (now : Int) + ((takes.getD m.k 0 : Nat) : Int) ≤ (m.time : Int) := fun g => by
      have := not_over hov g
      rw [hb.began] at this
      omega
    rw [SaysBusy, refEnd_next hk (by omega) hnf, refEnd]
    rw [firstF_end hend, firstF_end hend]
    have hc : (if m.k < takes.length then (-1 : Int) else -1) < 0 ∨ (0 ≤ (-1 : Int) ∧ (-1 : Int) < (if m.k < takes.length then (-1 : Int) else -1)) := Or.inl (by split <;> omega)
    rw [if_pos hc, if_neg (by omega)]
    simp [runM, tellF]
theorem open_cons {l : List TStp} (J : Nat) (takes : List Nat) (L : List Int) (c : Nat) (cs : List Nat) (ih : ∀ m, Says l J takes L cs m) : OpenSays l J takes L (c :: cs) := by
  intro m k over hL
  have hk := hL.here
  refine ⟨fun x hf hx ht => ?_, fun x now pre hb hov hlg => ?_⟩
  · rw [runM_cons rfl]
    have hf2 : Free l { m with time := m.time + c } over := ⟨hf.work, hf.len, hf.le, hf.same⟩
    rw [(ih { m with time := m.time + c } (k + 1) over hL.next).1 hf2, SaysFree, SaysFree]
    simp only
    rw [drop_cons' hx, refGo, refGo, firstF_next hk (x := (x.t : Int)) (by omega)]
  · have hnf : m.k < takes.length → ¬ (now : Int) + ((takes.getD m.k 0 : Nat) : Int) ≤ (m.time : Int) := fun g => by
      have := not_over hov g
      rw [hb.began] at this
      omega
    rw [runM_cons rfl]
    have hb2 : Busy l { m with time := m.time + c } over x now pre := ⟨hb.work, hb.at_, hb.sts, hb.len, hb.same, Nat.le_trans hb.le (Nat.le_add_right _ _)⟩
    rw [(ih { m with time := m.time + c } (k + 1) over hL.next).2 x now pre hb2, SaysBusy, SaysBusy]
    simp only
    rw [refEnd_next hk (by omega) hnf]
theorem machine_says {l : List TStp} (hr : Right l) (J : Nat) (takes : List Nat) (L : List Int) : ∀ (cs : List Nat) (m : Ms), Says l J takes L cs m := by
  intro cs
  induction cs with
  | nil => exact fun m => says_of_open hr J takes L [] (open_nil J takes L) _ m rfl
  | cons c cs ih => exact fun m => says_of_open hr J takes L (c :: cs) (open_cons J takes L c cs ih) _ m rfl

/-- What the machine comes to is what the document says. -/
theorem machine_is {l : List TStp} (hr : Right l) (J : Nat) (clock takes : List Nat) : tellF l (machF l J clock takes) = refGo (sumsF 0 clock) J takes l 0 0 [] [0, 0, 0, 0] := by
  have h := (machine_says hr J takes (sumsF 0 clock) clock startM 0 [0, 0, 0, 0] rfl).1 ⟨rfl, rfl, Nat.zero_le _, Same.start⟩
  rw [SaysFree, show startM.k = 0 from rfl, List.drop_zero, show startM.sts = [] from rfl, evB_nil] at h
  exact h

end Hx
end Go.Proofs.YtppcnlkhdgmaiaaDoor
