/- What the program's write does: a timetable as a text. -/
import Derived.Test.YtppcnlkhdgmaiaaDoorCPz
import Derived.Test.YtppcnlkhdgmaiaaDoorCPlB
import Derived.Test.YtppcnlkhdgmaiaaDoorCRmG
import Derived.Deep.RegionHeld3
namespace Go.Proofs.YtppcnlkhdgmaiaaDoor
open Go.RowKit

theorem Bd.set {B b sb p : Nat} {l : List UInt8} {w : World} {a : Array Value} {T : TypeId} {fr : Nat × Nat} (hs : w.heap[sb]? = some (.cells a T fr)) (hT : (5 : TypeId) ≠ T) (hne : b ≠ sb) (v : Value) (h : Bd B b l w) : Bd B b l (w.setCell ⟨sb, p, none⟩ v) := by
  rcases h with ⟨h1, v', h2, h3, h4⟩ | ⟨h1, v', h2, h3, h4⟩
  · exact Or.inl ⟨h1, v', blk_set_other h2 hne _ _, own_set h3 hs hT _ _, h4⟩
  · exact Or.inr ⟨h1, v', blk_set_other h2 hne _ _, own_set h3 hs hT _ _, h4⟩

/-- What holds while it is written. -/
structure Wr (W : World) (bb sb : Nat) (txt : List UInt8) (st : List Int) (w : World) : Prop where
  bd : Bd W.heap.size bb txt w
  be : Below W.heap.size W w
  sk : w.heap[sb]? = some (.cells (ints st).toArray 3 (0, 0))
  ge : W.heap.size ≤ sb
  ne : bb ≠ sb
theorem Wr.below {W bb sb txt st w w'} (hb : Below w.heap.size w w') (h : Wr W bb sb txt st w) : Wr W bb sb txt st w' := ⟨Bd.below hb h.bd, belB hb h.be, bBel hb h.sk, h.ge, h.ne⟩
theorem Wr.drew {W bb sb txt st w} (h : Wr W bb sb txt st w) : Wr W bb sb txt st w.drew := h.below (Below.refl _ _).drew
theorem Wr.drewN {W bb sb txt st w} (n : Nat) (h : Wr W bb sb txt st w) : Wr W bb sb txt st (w.drewN n) := h.below (below_drewN (Below.refl _ _) n)
theorem Wr.alloc {W bb sb txt st w} (o : Obj) (h : Wr W bb sb txt st w) : Wr W bb sb txt st (w.alloc o) := h.below ((Below.refl _ _).alloc (Nat.le_refl _) o)
theorem Wr.text {W bb sb txt st w w' txt'} (hd : Bd W.heap.size bb txt' w') (hb : Below W.heap.size w w') (hk : KeptB bb w w') (h : Wr W bb sb txt st w) : Wr W bb sb txt' st w' :=
  ⟨hd, belW hb h.be, hk sb _ _ _ h.sk (by decide) (fun e => h.ne e.symm), h.ge, h.ne⟩
theorem Wr.store {W bb sb txt st w} (h : Wr W bb sb txt st w) (p : Nat) (z : Int) : Wr W bb sb txt (st.set p z) (w.setCell ⟨sb, p, none⟩ (.int .i64 z)) := by
  refine ⟨Bd.set h.sk (by decide) h.ne _ h.bd, h.be.setCell (p := ⟨sb, p, none⟩) h.ge _, ?_, h.ge, h.ne⟩
  have := blk_set h.sk p (.int .i64 z)
  rw [this]
  simp [ints, List.map_set]
theorem Wr.cell {W bb sb txt st w} (h : Wr W bb sb txt st w) {p : Nat} (hp : p < st.length) : w.cell? ⟨sb, p, none⟩ = some (.int .i64 (st.getD p 0)) := by
  rw [blk_cell h.sk p]
  simp [ints, hp]
theorem Wr.fz {W bb sb txt st w} (h : Wr W bb sb txt st w) (j : Nat) : w.frozen? ⟨sb, j, none⟩ = false := Lib.frozen_of_heap h.sk j

abbrev trnArr (t : Hx.Trn) : Array Value := #[.int .i64 (t.x.lo : Int), .int .i64 (t.x.hi : Int), .bool t.x.rest, .int .i64 (t.x.mn : Int), .int .i64 (t.x.mx : Int), .int .i64 (t.pl : Int), .int .i64 (t.no : Int), .bool t.beg]
theorem bKeptT {b k : Nat} {w w' : World} {t : Hx.Trn} (hk : KeptB b w w') (hne : k ≠ b) (h : w.heap[k]? = some (.cells (trnArr t) 83 (0, 0))) : w'.heap[k]? = some (.cells (trnArr t) 83 (0, 0)) := hk k _ _ _ h (by decide) hne

theorem bKeptI {b k : Nat} {w w' : World} {a : Array Value} (hk : KeptB b w w') (hne : k ≠ b) (h : w.heap[k]? = some (.cells a 3 (0, 0))) : w'.heap[k]? = some (.cells a 3 (0, 0)) := hk k _ _ _ h (by decide) hne

set_option maxRecDepth 100000 in
set_option maxHeartbeats 8000000 in
theorem write_any (J K D n : Nat) (ao : Option Addr) (capv : Nat) (ov tv : Value) (en : Int) (o : List Hx.Trn) (f : Nat → Int) (w : World)
    (ho : Trns w 0 ov o) (ht : w.ownsRow 0 3 1 tv o.length (intCells o.length f)) (hop : 0 < o.length) (hol : o.length ≤ 100) (hn1 : 1 ≤ n) (hn : n ≤ 1000) (hsm : ∀ t ∈ o, Hx.TSm n t) (hf : ∀ i, i < o.length → 0 ≤ f i ∧ f i ≤ 200000000) (hJ : J < 10) (hp : P10 w) :
    Calls Tryd.prog 35 #[.agg #[.int .i64 (J : Int), .int .i64 (K : Int), .int .i64 (D : Int), .slice ao n capv], .agg #[ov, tv, .int .i64 en]] w
      fun e w' => e = .returned (.string ⟨(Hx.writeF J n (Hx.pairs o f)).toArray⟩) ∧ Below w.heap.size w w' := by
  obtain ⟨go, capo, rfl, _, hgo⟩ := own_pos ho hop
  obtain ⟨gt, capt, rfl, _, hgt⟩ := own_pos ht hop
  have HB0 := hide (belA (.cells #[.slice (some ⟨go, 0, none⟩) o.length capo, .slice (some ⟨gt, 0, none⟩) o.length capt, .int .i64 en] 89) (belA (.cells #[.int .i64 (J : Int), .int .i64 (K : Int), .int .i64 (D : Int), .slice ao n capv] 75) (Below.refl w.heap.size w)))
  have HX1 := hide (bA (.cells #[.slice (some ⟨go, 0, none⟩) o.length capo, .slice (some ⟨gt, 0, none⟩) o.length capt, .int .i64 en] 89) (blk_new w #[.int .i64 (J : Int), .int .i64 (K : Int), .int .i64 (D : Int), .slice ao n capv] 75))
  have HX2 : Hid (((w.alloc (.cells #[.int .i64 (J : Int), .int .i64 (K : Int), .int .i64 (D : Int), .slice ao n capv] 75)).alloc (.cells #[.slice (some ⟨go, 0, none⟩) o.length capo, .slice (some ⟨gt, 0, none⟩) o.length capt, .int .i64 en] 89)).heap[w.heap.size + 1]? = some (.cells #[.slice (some ⟨go, 0, none⟩) o.length capo, .slice (some ⟨gt, 0, none⟩) o.length capt, .int .i64 en] 89 (0, 0))) := bN _ _ (by simp)
  have HO := hide (own_below ho (unhide HB0))
  have HT := hide (own_below ht (unhide HB0))
  have HP := hide (hp.below (unhide HB0))
  have HSM := hide hsm
  have HF := hide hf
  clear ho ht hsm hf hp
  go_enter Tryd.func35, Tryd.ntmps35
  go_upto_region 1 with fail
  generalize (w.alloc (.cells #[.int .i64 (J : Int), .int .i64 (K : Int), .int .i64 (D : Int), .slice ao n capv] 75)).alloc (.cells #[.slice (some ⟨go, 0, none⟩) o.length capo, .slice (some ⟨gt, 0, none⟩) o.length capt, .int .i64 en] 89) = W at *
  have HBD0 := hide (Bd.fresh W)
  have HBE0 := hide (belA (.cells #[.pointer none, .slice none 0 0] 135) (Below.refl W.heap.size W))
  go_upto_region 2 with fail
  generalize W.alloc (.cells #[.pointer none, .slice none 0 0] 135) = Wa at *
  have a0 : Wa.cell? ⟨w.heap.size, 0, none⟩ = some (.int .i64 (J : Int)) := cBel (unhide HBE0) (blk_cell (unhide HX1) 0)
  have lJ : (Lib.itoa (J : Int)).length ≤ 21 := itoa_le (by omega) (by omega)
  have n1 : ¬ 9223372036854775807 < 1 + (Lib.itoa (J : Int)).length := by omega
  have HLJ : Hid (([] : List UInt8).length + ((⟨#[106]⟩ : ByteArray) ++ ⟨(Lib.itoa (J : Int)).toArray⟩).size ≤ 1000000) := by
    show _ ≤ _
    rw [ByteArray.size_append]
    show 0 + (1 + (Lib.itoa (J : Int)).length) ≤ _
    omega
  go_wp2_with fail
  refine (itoa_any _ (by omega) (by omega) _ ((unhide HP).below (unhide HBE0))).mono ?_
  rintro r w1 ⟨rfl, hb1⟩
  have HBD1 := hide (Bd.below hb1 (unhide HBD0))
  have HBE1 := hide (belB hb1 (unhide HBE0))
  clear hb1 a0 HBD0 HBE0
  go_wp2_with fail
  refine (wsd_any W.heap.size W.heap.size [] _ _ (unhide HBD1) (unhide HLJ) (unhide HBE1).size).mono ?_
  rintro r w2 ⟨rfl, hbd2, hb2, hk2⟩
  have HBD2 : Hid (Bd W.heap.size W.heap.size ([106] ++ Lib.itoa (J : Int)) w2) := by
    have e1 : ((⟨#[106]⟩ : ByteArray) ++ ⟨(Lib.itoa (J : Int)).toArray⟩).data.toList = [106] ++ Lib.itoa (J : Int) := by rw [ByteArray.data_append]; simp
    rw [e1] at hbd2
    exact hbd2
  have HBE2 := hide (belW hb2 (unhide HBE1))
  clear hbd2 hb2 hk2 HBD1 HBE1 HLJ
  have HBD3 := hide (Bd.alloc (.cells #[.int .i64 (-1)] 3) (unhide HBD2))
  have HBE3 := hide (belA (.cells #[.int .i64 (-1)] 3) (unhide HBE2))
  have HNB := hide (bN #[.int .i64 (-1)] 3 (w := w2) rfl)
  have a3 : (w2.alloc (.cells #[.int .i64 (-1)] 3)).cell? ⟨w.heap.size, 3, none⟩ = some (.slice ao n capv) := cBel (unhide HBE3) (blk_cell (unhide HX1) 3)
  go_wp2_with fail
  obtain ⟨nb, hnb⟩ : ∃ nb, nb = w2.heap.size := ⟨_, rfl⟩
  rw [← hnb] at HNB ⊢
  clear hnb HBD2 HBE2
  generalize w2.alloc (.cells #[.int .i64 (-1)] 3) = w3 at *
  refine (repeat_any nb n w3 (blk_cell (unhide HNB) 0) (lt_of_block (unhide HNB)) hn1 hn).mono ?_
  rintro r w4 ⟨rfl, hsb, hb4⟩
  have HW : Hid (Wr W W.heap.size w3.heap.size ([106] ++ Lib.itoa (J : Int)) (List.replicate n (-1)) w4) := by
    have hlt := Bd.lt (unhide HBD3)
    refine ⟨Bd.below hb4 (unhide HBD3), belB hb4 (unhide HBE3), ?_, (unhide HBE3).size, by omega⟩
    rw [hsb]
    simp [ints]
  obtain ⟨sb, hsbe⟩ : ∃ sb, sb = w3.heap.size := ⟨_, rfl⟩
  rw [← hsbe] at HW ⊢
  clear hsbe hsb hb4 HBD3 HBE3 HNB a3
  have b0 : w4.cell? ⟨w.heap.size + 1, 0, none⟩ = some (.slice (some ⟨go, 0, none⟩) o.length capo) := cBel (unhide HW).be (blk_cell (unhide HX2) 0)
  have HLP : Hid (∀ i, i ≤ o.length → (Hx.wAll ((Hx.pairs o f).take i) (List.replicate n (-1))).length ≤ 20000) := fun i hi => by
    have h1 := wAll_le hn ((Hx.pairs o f).take i) _ (Hx.StOk.start n) (fun p hp => by
      obtain ⟨j, hj, h2, h3⟩ := Hx.pairs_mem (List.mem_of_mem_take hp)
      have h4 := unhide HF j hj
      rw [h3]
      exact ⟨unhide HSM _ h2, h4⟩)
    rw [List.length_take, Hx.pairs_len] at h1
    omega
  go_wp2_with fail
  go_loopg [22] o.length (fun gk kk wr => ∃ i : Nat, i ≤ o.length ∧ gk = o.length - i ∧ kk = .int .i64 (i : Int) ∧ Wr W W.heap.size sb ([106] ++ Lib.itoa (J : Int) ++ Hx.wAll ((Hx.pairs o f).take i) (List.replicate n (-1))) (Hx.wSt ((Hx.pairs o f).take i) (List.replicate n (-1))) wr)
  case atStart => exact ⟨0, Nat.zero_le _, rfl, rfl, by rw [List.take_zero, Hx.wAll, List.append_nil]; exact unhide HW⟩
  case round =>
    clear HW b0
    obtain ⟨i, hi, rfl, rfl, hw⟩ := hrel
    by_cases hlt : i < o.length
    · obtain ⟨t, ht⟩ : ∃ t, o[i]? = some t := ⟨_, List.getElem?_eq_getElem hlt⟩
      have hts := unhide HSM t (List.mem_of_getElem? ht)
      obtain ⟨hT0, hT1⟩ := unhide HF i hlt
      obtain ⟨T, hT⟩ : ∃ T, T = f i := ⟨_, rfl⟩
      rw [← hT] at hT0 hT1
      obtain ⟨tx, htx⟩ : ∃ tx, tx = [106] ++ Lib.itoa (J : Int) ++ Hx.wAll ((Hx.pairs o f).take i) (List.replicate n (-1)) := ⟨_, rfl⟩
      obtain ⟨st, hst⟩ : ∃ st, st = Hx.wSt ((Hx.pairs o f).take i) (List.replicate n (-1)) := ⟨_, rfl⟩
      have hso : Hx.StOk n st := by rw [hst]; exact Hx.StOk.all hn _ _ (Hx.StOk.start n)
      have htl : tx.length ≤ 20100 := by
        have := unhide HLP i (by omega)
        rw [htx, List.length_append, List.length_append]
        simp only [List.length_cons, List.length_nil]
        omega
      have htk : (Hx.pairs o f).take (i + 1) = (Hx.pairs o f).take i ++ [(t, T)] := by rw [List.take_add_one, Hx.pairs_at ht, hT]; rfl
      have HTX : Hid ([106] ++ Lib.itoa (J : Int) ++ Hx.wAll ((Hx.pairs o f).take (i + 1)) (List.replicate n (-1)) = tx ++ Hx.wHead t T ++ Hx.wOut t st ++ Hx.wIn t (Hx.sOut t st)) := by
        show _ = _
        rw [htk, Hx.wAll_snoc, ← hst, htx]
        simp only [List.append_assoc]
      have HST : Hid (Hx.wSt ((Hx.pairs o f).take (i + 1)) (List.replicate n (-1)) = Hx.sIn t (Hx.sOut t st)) := by
        show _ = _
        rw [htk, Hx.wSt_snoc, ← hst]
      have HSO := hide hso
      rw [← htx, ← hst] at hw
      have hpl := hts.pl
      have hp26 := hts.pl26
      have hno := hts.no
      have hlo := hts.lo
      have hhi := hts.hi
      have hmn := hts.mn
      have hmx := hts.mx
      have HTS := hide hts
      have cx : ∀ j, j < 8 → wr.cell? ⟨go, i * 8 + j, none⟩ = (trnCells t)[j]? := fun j hj => by
        have h1 := (unhide HO).cellAt (i * 8 + j) (by omega)
        rw [trnsCells_at o i t ht j hj] at h1
        rw [hw.be.cell (p := ⟨go, i * 8 + j, none⟩) (Nat.lt_of_lt_of_le hgo (unhide HB0).size)]
        exact h1
      have x0 : wr.cell? ⟨go, i * 8, none⟩ = some (.int .i64 (t.x.lo : Int)) := cx 0 (by omega)
      have x1 : wr.cell? ⟨go, i * 8 + 1, none⟩ = some (.int .i64 (t.x.hi : Int)) := cx 1 (by omega)
      have x2 : wr.cell? ⟨go, i * 8 + 2, none⟩ = some (.bool t.x.rest) := cx 2 (by omega)
      have x3 : wr.cell? ⟨go, i * 8 + 3, none⟩ = some (.int .i64 (t.x.mn : Int)) := cx 3 (by omega)
      have x4 : wr.cell? ⟨go, i * 8 + 4, none⟩ = some (.int .i64 (t.x.mx : Int)) := cx 4 (by omega)
      have x5 : wr.cell? ⟨go, i * 8 + 5, none⟩ = some (.int .i64 (t.pl : Int)) := cx 5 (by omega)
      have x6 : wr.cell? ⟨go, i * 8 + 6, none⟩ = some (.int .i64 (t.no : Int)) := cx 6 (by omega)
      have x7 : wr.cell? ⟨go, i * 8 + 7, none⟩ = some (.bool t.beg) := cx 7 (by omega)
      have HY : Hid (∀ w', Below W.heap.size W w' → w'.cell? ⟨gt, i, none⟩ = some (.int .i64 T)) := fun w' hb => by
        rw [hb.cell (p := ⟨gt, i, none⟩) (Nat.lt_of_lt_of_le hgt (unhide HB0).size), (unhide HT).cellAt i (by omega), hT]
        exact intCells_at hlt
      have hiI : (i : Int) < (o.length : Int) := by omega
      have hi0 : (0 : Int) ≤ (i : Int) := by omega
      obtain ⟨tb, htbe⟩ : ∃ tb, tb = wr.heap.size := ⟨_, rfl⟩
      have htbw : tb ≠ W.heap.size := by have := Bd.lt hw.bd; omega
      have htbs : tb ≠ sb := by have := lt_of_block hw.sk; omega
      have hsbw : sb ≠ W.heap.size := fun e => hw.ne e.symm
      have HTB := hide (bN #[.int .i64 (t.x.lo : Int), .int .i64 (t.x.hi : Int), .bool t.x.rest, .int .i64 (t.x.mn : Int), .int .i64 (t.x.mx : Int), .int .i64 (t.pl : Int), .int .i64 (t.no : Int), .bool t.beg] 83 (w := wr) htbe)
      have HWR := hide (Wr.alloc (.cells #[.int .i64 (t.x.lo : Int), .int .i64 (t.x.hi : Int), .bool t.x.rest, .int .i64 (t.x.mn : Int), .int .i64 (t.x.mx : Int), .int .i64 (t.pl : Int), .int .i64 (t.no : Int), .bool t.beg] 83) hw)
      clear hw hT htx hst htk cx ht hts hso
      go_upto_region 7 with fail
      rw [← htbe]
      clear htbe x0 x1 x2 x3 x4 x5 x6 x7
      generalize wr.alloc (.cells #[.int .i64 (t.x.lo : Int), .int .i64 (t.x.hi : Int), .bool t.x.rest, .int .i64 (t.x.mn : Int), .int .i64 (t.x.mx : Int), .int .i64 (t.pl : Int), .int .i64 (t.no : Int), .bool t.beg] 83) = wx at *
      have SF : Hid (∀ w', Below W.heap.size W w' → w'.heap[tb]? = some (.cells #[.int .i64 (t.x.lo : Int), .int .i64 (t.x.hi : Int), .bool t.x.rest, .int .i64 (t.x.mn : Int), .int .i64 (t.x.mx : Int), .int .i64 (t.pl : Int), .int .i64 (t.no : Int), .bool t.beg] 83 (0, 0)) → (w'.cell? ⟨w.heap.size + 1, 1, none⟩ = some (.slice (some ⟨gt, 0, none⟩) o.length capt) ∧ w'.cell? ⟨gt, i, none⟩ = some (.int .i64 T) ∧ w'.cell? ⟨tb, 0, none⟩ = some (.int .i64 (t.x.lo : Int)) ∧ w'.cell? ⟨tb, 1, none⟩ = some (.int .i64 (t.x.hi : Int)) ∧ w'.cell? ⟨tb, 2, none⟩ = some (.bool t.x.rest) ∧ w'.cell? ⟨tb, 3, none⟩ = some (.int .i64 (t.x.mn : Int)) ∧ w'.cell? ⟨tb, 4, none⟩ = some (.int .i64 (t.x.mx : Int)) ∧ w'.cell? ⟨tb, 5, none⟩ = some (.int .i64 (t.pl : Int)) ∧ w'.cell? ⟨tb, 6, none⟩ = some (.int .i64 (t.no : Int)) ∧ w'.cell? ⟨tb, 7, none⟩ = some (.bool t.beg))) := fun w' hw' htb' =>
        ⟨cBel hw' (blk_cell (unhide HX2) 1), unhide HY w' hw', blk_cell htb' 0, blk_cell htb' 1, blk_cell htb' 2, blk_cell htb' 3, blk_cell htb' 4, blk_cell htb' 5, blk_cell htb' 6, blk_cell htb' 7⟩
      go_cut [] (fun wc => Wr W W.heap.size sb (tx ++ Hx.wHead t T) st wc ∧ wc.heap[tb]? = some (.cells #[.int .i64 (t.x.lo : Int), .int .i64 (t.x.hi : Int), .bool t.x.rest, .int .i64 (t.x.mn : Int), .int .i64 (t.x.mx : Int), .int .i64 (t.pl : Int), .int .i64 (t.no : Int), .bool t.beg] 83 (0, 0)))
      case first =>
        obtain ⟨nm, hnm⟩ : ∃ nm, nm = Hx.nameB t.pl t.no := ⟨_, rfl⟩
        obtain ⟨it, hit⟩ : ∃ it, it = Lib.itoa T := ⟨_, rfl⟩
        obtain ⟨bl, hbl⟩ : ∃ bl, bl = Hx.bndB t.x.lo t.x.hi := ⟨_, rfl⟩
        have HNM : Hid (∀ w', Calls Tryd.prog 33 #[.agg #[.int .i64 (t.x.lo : Int), .int .i64 (t.x.hi : Int), .bool t.x.rest, .int .i64 (t.x.mn : Int), .int .i64 (t.x.mx : Int), .int .i64 (t.pl : Int), .int .i64 (t.no : Int), .bool t.beg]] w' fun e w2 => e = .returned (.string nm) ∧ Below w'.heap.size w' w2) := fun w' => by rw [hnm]; exact tname_any t w' hp26 hno
        have HIT : Hid (∀ w', P10 w' → Calls Tryd.prog 53 #[.int .i64 T] w' fun e w2 => e = .returned (.string ⟨it.toArray⟩) ∧ Below w'.heap.size w' w2) := fun w' h => by rw [hit]; exact itoa_any T (by omega) (by omega) w' h
        have HBW : Hid (∀ w', P10 w' → Calls Tryd.prog 55 #[.agg #[.int .i64 (t.x.lo : Int), .int .i64 (t.x.hi : Int)]] w' fun e w2 => e = .returned (.string ⟨bl.toArray⟩) ∧ Below w'.heap.size w' w2) := fun w' h => by rw [hbl]; exact bw_any t.x.lo t.x.hi (by omega) (by omega) w' h
        have l1 : nm.size = 2 := by rw [hnm]; rfl
        have l2 : it.length ≤ 21 := by rw [hit]; exact itoa_le (by omega) (by omega)
        have l3 : bl.length ≤ 43 := by rw [hbl]; exact bndB_le hlo hhi
        have m1 : ¬ 9223372036854775807 < 1 + nm.size := by omega
        have m2 : ¬ 9223372036854775807 < 1 + nm.size + 1 := by omega
        have m3 : ¬ 9223372036854775807 < 1 + nm.size + 1 + it.length := by omega
        have m4 : ¬ 9223372036854775807 < 1 + nm.size + 1 + it.length + 1 := by omega
        have m5 : ¬ 9223372036854775807 < 1 + nm.size + 1 + it.length + 1 + bl.length := by omega
        have HLEN : Hid (tx.length + ((⟨#[59]⟩ : ByteArray) ++ nm ++ ⟨#[64]⟩ ++ ⟨it.toArray⟩ ++ ⟨#[43]⟩ ++ ⟨bl.toArray⟩).size ≤ 1000000) := by
          show _ ≤ _
          rw [ByteArray.size_append, ByteArray.size_append, ByteArray.size_append, ByteArray.size_append, ByteArray.size_append, bsz, bsz]
          show tx.length + (1 + nm.size + 1 + it.length + 1 + bl.length) ≤ _
          omega
        have HCAT : Hid (((⟨#[59]⟩ : ByteArray) ++ nm ++ ⟨#[64]⟩ ++ ⟨it.toArray⟩ ++ ⟨#[43]⟩ ++ ⟨bl.toArray⟩).data.toList = Hx.wHead t T) := by
          show _ = _
          simp only [ByteArray.data_append, Array.toList_append, hnm, hit, hbl, Hx.wHead]
        have HBD := hide (unhide HWR).bd
        have HBE := hide (unhide HWR).be
        have HSB := hide (unhide HWR).sk
        obtain ⟨s1, s2, s3, s4, s5, s6, s7, s8, s9, s10⟩ := unhide SF wx (unhide HBE) (unhide HTB)
        clear l1 l2 l3 hnm hit hbl
        go_region_held3 (fun w' => w'.cell? ⟨w.heap.size + 1, 1, none⟩ = some (.slice (some ⟨gt, 0, none⟩) o.length capt) ∧ w'.cell? ⟨gt, i, none⟩ = some (.int .i64 T) ∧ w'.cell? ⟨tb, 0, none⟩ = some (.int .i64 (t.x.lo : Int)) ∧ w'.cell? ⟨tb, 1, none⟩ = some (.int .i64 (t.x.hi : Int)) ∧ w'.cell? ⟨tb, 2, none⟩ = some (.bool t.x.rest) ∧ w'.cell? ⟨tb, 3, none⟩ = some (.int .i64 (t.x.mn : Int)) ∧ w'.cell? ⟨tb, 4, none⟩ = some (.int .i64 (t.x.mx : Int)) ∧ w'.cell? ⟨tb, 5, none⟩ = some (.int .i64 (t.pl : Int)) ∧ w'.cell? ⟨tb, 6, none⟩ = some (.int .i64 (t.no : Int)) ∧ w'.cell? ⟨tb, 7, none⟩ = some (.bool t.beg)) (exact unhide SF _ (by (repeat with_reducible (first | exact unhide HBE | apply belD | apply belN | refine belB (by assumption) ?_ | refine belW (by assumption) ?_))) (by (repeat with_reducible (first | exact unhide HTB | apply bD | apply bN' | refine bBel (by assumption) ?_ | refine bKeptT (by assumption) htbw ?_))))
          (first
            | (go_at_call 33; refine (unhide HNM _).mono ?_; rintro r w5 ⟨rfl, hb5⟩)
            | (go_at_call 53; refine (unhide HIT _ ?_).mono ?_; (refine (unhide HP).below ?_; (repeat with_reducible (first | exact unhide HBE | apply belD | apply belN | refine belB (by assumption) ?_ | refine belW (by assumption) ?_))); rintro r w6 ⟨rfl, hb6⟩)
            | (go_at_call 55; refine (unhide HBW _ ?_).mono ?_; (refine (unhide HP).below ?_; (repeat with_reducible (first | exact unhide HBE | apply belD | apply belN | refine belB (by assumption) ?_ | refine belW (by assumption) ?_))); rintro r w7 ⟨rfl, hb7⟩)
            | (go_at_call 52; refine (wsd_any W.heap.size W.heap.size tx _ _ ?_ (unhide HLEN) ?_).mono ?_; (repeat with_reducible (first | exact unhide HBD | apply Bd.drew | apply Bd.drewN | refine Bd.below (by assumption) ?_)); (refine Below.size (B := W.heap.size) (w := W) ?_; (repeat with_reducible (first | exact unhide HBE | apply belD | apply belN | refine belB (by assumption) ?_ | refine belW (by assumption) ?_))); rintro r w8 ⟨rfl, hbd8, hb8, hk8⟩))
        all_goals
          go_wp2_with fail
          go_meet
          case rel =>
            rw [unhide HCAT] at hbd8
            refine ⟨⟨hbd8, ?_, ?_, (unhide HWR).ge, (unhide HWR).ne⟩, ?_⟩
            · (repeat with_reducible (first | exact unhide HBE | apply belD | apply belN | refine belB (by assumption) ?_ | refine belW (by assumption) ?_))
            · (repeat with_reducible (first | exact unhide HSB | apply bD | apply bN' | refine bBel (by assumption) ?_ | refine bKeptI (by assumption) hsbw ?_))
            · (repeat with_reducible (first | exact unhide HTB | apply bD | apply bN' | refine bBel (by assumption) ?_ | refine bKeptT (by assumption) htbw ?_))
      case rest =>
        obtain ⟨hw2, htb2⟩ := hcut
        have c2 : wc.cell? ⟨tb, 2, none⟩ = some (.bool t.x.rest) := blk_cell htb2 2
        have hsl : t.pl < st.length := by rw [(unhide HSO).1]; exact hpl
        have hplI : (t.pl : Int) < (n : Int) := by omega
        have hpl0 : (0 : Int) ≤ (t.pl : Int) := by omega
        have hhd := wHead_le (unhide HTS) hT0 hT1
        obtain ⟨tx2, htx2⟩ : ∃ tx2, tx2 = tx ++ Hx.wHead t T := ⟨_, rfl⟩
        have htl2 : tx2.length ≤ 20200 := by rw [htx2, List.length_append]; omega
        rw [← htx2] at hw2 HTX
        have HWR2 := hide hw2
        have HTB2 := hide htb2
        clear hw2 htb2 HWR HTB SF HY htx2 hhd
        go_upto_if 47 with fail
        go_cut [] (fun wd => Wr W W.heap.size sb (tx2 ++ Hx.wOut t st) (Hx.sOut t st) wd ∧ wd.heap[tb]? = some (.cells #[.int .i64 (t.x.lo : Int), .int .i64 (t.x.hi : Int), .bool t.x.rest, .int .i64 (t.x.mn : Int), .int .i64 (t.x.mx : Int), .int .i64 (t.pl : Int), .int .i64 (t.no : Int), .bool t.beg] 83 (0, 0)))
        case first =>
          cases hr : t.x.rest with
          | false =>
            have HO2 : Hid (Hx.wOut t st = [] ∧ Hx.sOut t st = st) := by refine ⟨?_, ?_⟩ <;> simp [Hx.wOut, Hx.sOut, hr]
            rw [hr] at c2
            clear hr
            go_wp2_with fail
            go_meet
            case rel => exact ⟨by rw [(unhide HO2).1, (unhide HO2).2, List.append_nil]; exact unhide HWR2, unhide HTB2⟩
          | true =>
            obtain ⟨z, hz⟩ : ∃ z, z = st.getD t.pl 0 := ⟨_, rfl⟩
            have hzb := (unhide HSO).at_ t.pl
            rw [← hz] at hzb
            obtain ⟨it, hit⟩ : ∃ it, it = Lib.itoa z := ⟨_, rfl⟩
            obtain ⟨bl, hbl⟩ : ∃ bl, bl = Hx.bndB t.x.mn t.x.mx := ⟨_, rfl⟩
            have HO2 : Hid (Hx.wOut t st = [60] ++ it ++ [58] ++ bl ∧ Hx.sOut t st = st.set t.pl (-1)) := by
              refine ⟨?_, ?_⟩
              · simp only [Hx.wOut, hr, if_true]; rw [hit, hbl, hz]
              · simp [Hx.sOut, hr]
            have HIT : Hid (∀ w', P10 w' → Calls Tryd.prog 53 #[.int .i64 z] w' fun e w2 => e = .returned (.string ⟨it.toArray⟩) ∧ Below w'.heap.size w' w2) := fun w' h => by rw [hit]; exact itoa_any z (by omega) (by omega) w' h
            have HBW : Hid (∀ w', P10 w' → Calls Tryd.prog 55 #[.agg #[.int .i64 (t.x.mn : Int), .int .i64 (t.x.mx : Int)]] w' fun e w2 => e = .returned (.string ⟨bl.toArray⟩) ∧ Below w'.heap.size w' w2) := fun w' h => by rw [hbl]; exact bw_any t.x.mn t.x.mx (by omega) (by omega) w' h
            have l2 : it.length ≤ 21 := by rw [hit]; exact itoa_le (by omega) (by omega)
            have l3 : bl.length ≤ 43 := by rw [hbl]; exact bndB_le hmn hmx
            have m1 : ¬ 9223372036854775807 < 1 + it.length := by omega
            have m2 : ¬ 9223372036854775807 < 1 + it.length + 1 := by omega
            have m3 : ¬ 9223372036854775807 < 1 + it.length + 1 + bl.length := by omega
            have HLEN : Hid (tx2.length + ((⟨#[60]⟩ : ByteArray) ++ ⟨it.toArray⟩ ++ ⟨#[58]⟩ ++ ⟨bl.toArray⟩).size ≤ 1000000) := by
              show _ ≤ _
              rw [ByteArray.size_append, ByteArray.size_append, ByteArray.size_append, bsz, bsz]
              show tx2.length + (1 + it.length + 1 + bl.length) ≤ _
              omega
            have HCAT : Hid (((⟨#[60]⟩ : ByteArray) ++ ⟨it.toArray⟩ ++ ⟨#[58]⟩ ++ ⟨bl.toArray⟩).data.toList = Hx.wOut t st) := by
              show _ = _
              rw [(unhide HO2).1]
              simp only [ByteArray.data_append, Array.toList_append]
            have HBD := hide (unhide HWR2).bd
            have HBE := hide (unhide HWR2).be
            have HSB := hide (unhide HWR2).sk
            have HTB := HTB2
            have SF : Hid (∀ w' : World, w'.heap[tb]? = some (.cells #[.int .i64 (t.x.lo : Int), .int .i64 (t.x.hi : Int), .bool t.x.rest, .int .i64 (t.x.mn : Int), .int .i64 (t.x.mx : Int), .int .i64 (t.pl : Int), .int .i64 (t.no : Int), .bool t.beg] 83 (0, 0)) → w'.heap[sb]? = some (.cells (ints st).toArray 3 (0, 0)) → (w'.cell? ⟨tb, 5, none⟩ = some (.int .i64 (t.pl : Int)) ∧ w'.cell? ⟨sb, t.pl, none⟩ = some (.int .i64 z) ∧ w'.cell? ⟨tb, 3, none⟩ = some (.int .i64 (t.x.mn : Int)) ∧ w'.cell? ⟨tb, 4, none⟩ = some (.int .i64 (t.x.mx : Int)))) := fun w' htb' hsb' =>
              ⟨blk_cell htb' 5, by rw [blk_cell hsb' t.pl, hz]; simp [ints, hsl], blk_cell htb' 3, blk_cell htb' 4⟩
            have HHR := hide hr
            obtain ⟨s1, s2, s3, s4⟩ := unhide SF wc (unhide HTB) (unhide HSB)
            rw [hr] at c2
            clear l2 l3 hit hbl hz hr
            go_upto_region 9 with fail
            go_cut [] (fun wd => Wr W W.heap.size sb (tx2 ++ Hx.wOut t st) st wd ∧ wd.heap[tb]? = some (.cells #[.int .i64 (t.x.lo : Int), .int .i64 (t.x.hi : Int), .bool t.x.rest, .int .i64 (t.x.mn : Int), .int .i64 (t.x.mx : Int), .int .i64 (t.pl : Int), .int .i64 (t.no : Int), .bool t.beg] 83 (0, 0)))
            case first =>
              go_region_held3 (fun w' => w'.cell? ⟨tb, 5, none⟩ = some (.int .i64 (t.pl : Int)) ∧ w'.cell? ⟨sb, t.pl, none⟩ = some (.int .i64 z) ∧ w'.cell? ⟨tb, 3, none⟩ = some (.int .i64 (t.x.mn : Int)) ∧ w'.cell? ⟨tb, 4, none⟩ = some (.int .i64 (t.x.mx : Int))) (exact unhide SF _ (by (repeat with_reducible (first | exact unhide HTB | apply bD | apply bN' | refine bBel (by assumption) ?_ | refine bKeptT (by assumption) htbw ?_))) (by (repeat with_reducible (first | exact unhide HSB | apply bD | apply bN' | refine bBel (by assumption) ?_ | refine bKeptI (by assumption) hsbw ?_))))
                (first
                  | (go_at_call 53; refine (unhide HIT _ ?_).mono ?_; (refine (unhide HP).below ?_; (repeat with_reducible (first | exact unhide HBE | apply belD | apply belN | refine belB (by assumption) ?_ | refine belW (by assumption) ?_))); rintro r w6 ⟨rfl, hb6⟩)
                  | (go_at_call 55; refine (unhide HBW _ ?_).mono ?_; (refine (unhide HP).below ?_; (repeat with_reducible (first | exact unhide HBE | apply belD | apply belN | refine belB (by assumption) ?_ | refine belW (by assumption) ?_))); rintro r w7 ⟨rfl, hb7⟩)
                  | (go_at_call 52; refine (wsd_any W.heap.size W.heap.size tx2 _ _ ?_ (unhide HLEN) ?_).mono ?_; (repeat with_reducible (first | exact unhide HBD | apply Bd.drew | apply Bd.drewN | refine Bd.below (by assumption) ?_)); (refine Below.size (B := W.heap.size) (w := W) ?_; (repeat with_reducible (first | exact unhide HBE | apply belD | apply belN | refine belB (by assumption) ?_ | refine belW (by assumption) ?_))); rintro r w8 ⟨rfl, hbd8, hb8, hk8⟩))
              all_goals
                go_wp2_with fail
                go_meet
                case rel =>
                  rw [unhide HCAT] at hbd8
                  refine ⟨⟨hbd8, ?_, ?_, (unhide HWR2).ge, (unhide HWR2).ne⟩, ?_⟩
                  · (repeat with_reducible (first | exact unhide HBE | apply belD | apply belN | refine belB (by assumption) ?_ | refine belW (by assumption) ?_))
                  · (repeat with_reducible (first | exact unhide HSB | apply bD | apply bN' | refine bBel (by assumption) ?_ | refine bKeptI (by assumption) hsbw ?_))
                  · (repeat with_reducible (first | exact unhide HTB | apply bD | apply bN' | refine bBel (by assumption) ?_ | refine bKeptT (by assumption) htbw ?_))
            case rest =>
              obtain ⟨hw3, htb3⟩ := hcut
              have c5 : wc.cell? ⟨tb, 5, none⟩ = some (.int .i64 (t.pl : Int)) := blk_cell htb3 5
              have fz := hw3.fz
              have csb : wc.cell? ⟨sb, t.pl, none⟩ = some (.int .i64 (st.getD t.pl 0)) := hw3.cell hsl
              have HW3 := hide hw3
              have HTB3 := hide htb3
              clear hw3 htb3 s1 s2 s3 s4 c2
              go_wp2_with fail
              go_meet
              case rel =>
                refine ⟨?_, blk_set_other (unhide HTB3) htbs _ _⟩
                rw [(unhide HO2).2]
                exact (unhide HW3).store t.pl (-1)
        case rest =>
          obtain ⟨hw4, htb4⟩ := hcut
          have c7 : wc.cell? ⟨tb, 7, none⟩ = some (.bool t.beg) := blk_cell htb4 7
          have hso2 := (unhide HSO).out t
          have hou := wOut_le (unhide HTS) (unhide HSO)
          obtain ⟨tx3, htx3⟩ : ∃ tx3, tx3 = tx2 ++ Hx.wOut t st := ⟨_, rfl⟩
          obtain ⟨st2, hst2⟩ : ∃ st2, st2 = Hx.sOut t st := ⟨_, rfl⟩
          have htl3 : tx3.length ≤ 20300 := by rw [htx3, List.length_append]; omega
          rw [← htx3, ← hst2] at hw4 HTX
          rw [← hst2] at HST hso2
          have hsl2 : t.pl < st2.length := by rw [hso2.1]; exact hpl
          have hs2n : n = st2.length := hso2.1.symm
          have HS2N := hide hs2n
          have HW4 := hide hw4
          have HTB4 := hide htb4
          clear htb4 HWR2 HTB2 c2 hou htx3 hst2 hsl hs2n
          cases hb : t.beg with
          | false =>
            have HI2 : Hid (Hx.wIn t st2 = [] ∧ Hx.sIn t st2 = st2) := by refine ⟨?_, ?_⟩ <;> simp [Hx.wIn, Hx.sIn, hb]
            rw [hb] at c7
            clear hb hw4 hso2
            go_wp2_with fail
            go_roundg (o.length - (i + 1))
            case measure => omega
            case rel => exact ⟨i + 1, by omega, rfl, by go_num, by rw [unhide HTX, unhide HST, (unhide HI2).1, (unhide HI2).2, List.append_nil]; exact unhide HW4⟩
          | true =>
            obtain ⟨lw, hlw⟩ : ∃ lw, lw = Hx.lowF st2 := ⟨_, rfl⟩
            have hlwn : lw ≤ 1000 := by
              have h1 := (Hx.lowF_spec st2).2.2
              have h2 := hso2.1
              rw [hlw]; omega
            have HI2 : Hid (Hx.wIn t st2 = [62] ++ Lib.itoa (lw : Int) ∧ Hx.sIn t st2 = st2.set t.pl (lw : Int)) := by refine ⟨?_, ?_⟩ <;> simp [Hx.wIn, Hx.sIn, hb, hlw]
            have HLOW : Hid (∀ w', Wr W W.heap.size sb tx3 st2 w' → Calls Tryd.prog 56 #[.slice (some ⟨sb, 0, none⟩) n n] w' fun e w2 => e = .returned (.int .i64 (lw : Int)) ∧ w2 = w') := fun w' h => by
              rw [hlw]
              exact low_at sb n n st2 w' (unhide HS2N) (by omega) (fun j hj => by rw [Nat.zero_add]; exact h.cell hj)
            have c5 : wc.cell? ⟨tb, 5, none⟩ = some (.int .i64 (t.pl : Int)) := blk_cell (unhide HTB4) 5
            have fz := hw4.fz
            have csb : wc.cell? ⟨sb, t.pl, none⟩ = some (.int .i64 (st2.getD t.pl 0)) := hw4.cell hsl2
            rw [hb] at c7
            clear hb hw4 hso2 hlw
            go_upto_region 12 with fail
            go_cut [] (fun wd => Wr W W.heap.size sb tx3 (Hx.sIn t st2) wd ∧ wd.heap[tb]? = some (.cells #[.int .i64 (t.x.lo : Int), .int .i64 (t.x.hi : Int), .bool t.x.rest, .int .i64 (t.x.mn : Int), .int .i64 (t.x.mx : Int), .int .i64 (t.pl : Int), .int .i64 (t.no : Int), .bool t.beg] 83 (0, 0)))
            case first =>
              go_region_held3 (fun w' => w'.cell? ⟨tb, 5, none⟩ = some (.int .i64 (t.pl : Int))) (repeat with_reducible (first | assumption | apply cD | apply cN | refine cS htbs ?_))
                (first
                  | (go_at_call 56; refine (unhide HLOW _ ?_).mono ?_; (repeat with_reducible (first | exact unhide HW4 | apply Wr.drew | apply Wr.drewN)); rintro r w5 ⟨rfl, rfl⟩))
              all_goals
                go_wp2_with fail
                go_meet
                case rel =>
                  refine ⟨?_, ?_⟩
                  · rw [(unhide HI2).2]
                    exact ((unhide HW4).drewN _).store t.pl (lw : Int)
                  · (repeat with_reducible (first | exact unhide HTB4 | apply bD | apply bN' | refine blk_set_other ?_ htbs _ _))
            case rest =>
              obtain ⟨hw5, htb5⟩ := hcut
              rw [(unhide HI2).2] at hw5
              have d5 : wc.cell? ⟨tb, 5, none⟩ = some (.int .i64 (t.pl : Int)) := blk_cell htb5 5
              have dsb : wc.cell? ⟨sb, t.pl, none⟩ = some (.int .i64 (lw : Int)) := by
                have := hw5.cell (p := t.pl) (by rw [List.length_set]; exact hsl2)
                rw [this]
                simp [hsl2]
              obtain ⟨it, hit⟩ : ∃ it, it = Lib.itoa (lw : Int) := ⟨_, rfl⟩
              have HIT : Hid (∀ w', P10 w' → Calls Tryd.prog 53 #[.int .i64 (lw : Int)] w' fun e w2 => e = .returned (.string ⟨it.toArray⟩) ∧ Below w'.heap.size w' w2) := fun w' h => by rw [hit]; exact itoa_any (lw : Int) (by omega) (by omega) w' h
              have l2 : it.length ≤ 21 := by rw [hit]; exact itoa_le (by omega) (by omega)
              have m1 : ¬ 9223372036854775807 < 1 + it.length := by omega
              have HLEN : Hid (tx3.length + ((⟨#[62]⟩ : ByteArray) ++ ⟨it.toArray⟩).size ≤ 1000000) := by
                show _ ≤ _
                rw [ByteArray.size_append, bsz]
                show tx3.length + (1 + it.length) ≤ _
                omega
              have HCAT : Hid (((⟨#[62]⟩ : ByteArray) ++ ⟨it.toArray⟩).data.toList = Hx.wIn t st2) := by
                show _ = _
                rw [(unhide HI2).1]
                simp only [ByteArray.data_append, Array.toList_append, hit]
              have HW5 := hide hw5
              clear hw5 htb5 c5 c7 csb fz l2 hit HW4 HTB4 HLOW
              go_wp2_with fail
              refine (unhide HIT _ ((unhide HP).below (unhide HW5).be)).mono ?_
              rintro r w6 ⟨rfl, hb6⟩
              have HW6 := hide ((unhide HW5).below hb6)
              clear hb6 HW5
              go_wp2_with fail
              refine (wsd_any W.heap.size W.heap.size tx3 _ _ (unhide HW6).bd (unhide HLEN) (unhide HW6).be.size).mono ?_
              rintro r w7 ⟨rfl, hbd7, hb7, hk7⟩
              rw [unhide HCAT] at hbd7
              have HW7 := hide (Wr.text hbd7 hb7 hk7 (unhide HW6))
              clear hbd7 hb7 hk7 HW6
              go_wp2_with fail
              go_roundg (o.length - (i + 1))
              case measure => omega
              case rel => exact ⟨i + 1, by omega, rfl, by go_num, by rw [unhide HTX, unhide HST, (unhide HI2).2]; exact unhide HW7⟩
    · have hie : i = o.length := by omega
      have hiI : ¬ (i : Int) < (o.length : Int) := by omega
      have HBD := hide hw.bd
      have HBE := hide hw.be
      have HTX : Hid (Hx.writeF J n (Hx.pairs o f) = [106] ++ Lib.itoa (J : Int) ++ Hx.wAll ((Hx.pairs o f).take i) (List.replicate n (-1))) := by
        show _ = _
        rw [hie, List.take_of_length_le (by rw [Hx.pairs_len]; exact Nat.le_refl _)]; rfl
      clear hw hie
      go_wp2_with (go_at_call 57; refine (Tryd.Builder_String_any W.heap.size W.heap.size _ _ (unhide HBD) (unhide HBE).size).mono ?_; rintro r w9 ⟨rfl, hb9⟩; have HB9 := hide hb9; clear hb9)
      go_returns
      exact ⟨ret_str (by rw [unhide HTX]; simp), (unhide HB0).trans ((belW (unhide HB9) (unhide HBE)).mono (unhide HB0).size)⟩

end Go.Proofs.YtppcnlkhdgmaiaaDoor
