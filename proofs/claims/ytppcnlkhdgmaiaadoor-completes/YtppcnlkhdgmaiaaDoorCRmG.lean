/- What the machine's write does. -/
import Derived.Test.YtppcnlkhdgmaiaaDoorCPz
namespace Go.Proofs.YtppcnlkhdgmaiaaDoor
open Go.RowKit

/-- The table of outcomes, as it lies. -/
def Onm (w : World) : Prop := ∀ i : Nat, i < 6 → w.cell? ⟨0, i * 2, none⟩ = some (.string ⟨(Hx.outB i).toArray⟩) ∧ w.cell? ⟨0, i * 2 + 1, none⟩ = some (.bool (decide (2 ≤ i)))
theorem Onm.below {w w' : World} (h : Onm w) (hb : Below w.heap.size w w') : Onm w' := fun i hi => ⟨cBel hb (h i hi).1, cBel hb (h i hi).2⟩
theorem outB_len (e : Nat) : (Hx.outB e).length ≤ 6 := by
  match e with
  | 0 => decide
  | 1 => decide
  | 2 => decide
  | 3 => decide
  | 4 => decide
  | n + 5 => exact (by decide : (Hx.outB 5).length ≤ 6)
theorem bsz (l : List UInt8) : (⟨l.toArray⟩ : ByteArray).size = l.length := rfl
theorem nameB_list (pl no : Nat) : (Hx.nameB pl no).data.toList = Hx.nmB pl no := rfl
theorem stintB_len (p : Nat × Option Nat) (h1 : p.1 ≤ 3000000) (h2 : ∀ v, p.2 = some v → v ≤ 3000000) : (Hx.stintB p).length ≤ 43 := by
  have la : (Lib.itoa (p.1 : Int)).length ≤ 21 := Lib.itoa_length_le _ (by omega) (by omega)
  unfold Hx.stintB
  cases ho : p.2 with
  | none => simp; omega
  | some v =>
    have := h2 v ho
    have lb : (Lib.itoa (v : Int)).length ≤ 21 := Lib.itoa_length_le _ (by omega) (by omega)
    simp; omega
theorem evB_len (l : List Hx.TStp) (sts : List (Nat × Option Nat)) (h1 : ∀ p ∈ sts, p.1 ≤ 3000000 ∧ ∀ v, p.2 = some v → v ≤ 3000000) : (Hx.evB l sts).length ≤ 50 * sts.length := by
  have key : ∀ (l : List Hx.TStp) (sts : List (Nat × Option Nat)), (∀ p ∈ sts, p.1 ≤ 3000000 ∧ ∀ v, p.2 = some v → v ≤ 3000000) → ((List.zipWith Hx.entB l sts).map fun b => (44 : UInt8) :: b).flatten.length ≤ 50 * sts.length := by
    intro l
    induction l with
    | nil => intro sts _; simp
    | cons x l ih =>
      intro sts h
      cases sts with
      | nil => simp
      | cons p sts =>
        have h2 := ih sts (fun q hq => h q (by simp [hq]))
        obtain ⟨a, b⟩ := h p (by simp)
        have h3 := stintB_len p a b
        simp only [List.zipWith_cons_cons, List.map_cons, List.flatten_cons, List.length_append, List.length_cons, Hx.entB, Hx.nmB] at h2 ⊢
        simp only [List.length_nil] at *
        omega
  have h2 := key l sts h1
  unfold Hx.evB Hx.joinC
  cases hz : List.zipWith Hx.entB l sts with
  | nil => simp
  | cons a r =>
    rw [hz] at h2
    simp only [List.map_cons, List.flatten_cons, List.length_append, List.length_cons] at h2
    simp only [List.length_append]
    omega

theorem bKept {b k : Nat} {w w' : World} {a : Array Value} (hk : KeptB b w w') (hne : k ≠ b) (h : w.heap[k]? = some (.cells a 155 (0, 0))) : w'.heap[k]? = some (.cells a 155 (0, 0)) := hk k a _ _ h (by decide) hne
theorem Bd.lt {B b : Nat} {l : List UInt8} {w : World} (h : Bd B b l w) : b < w.heap.size := by
  rcases h with h | h
  · exact h.lt
  · exact h.lt

set_option maxRecDepth 100000 in
set_option maxHeartbeats 4000000 in
theorem mwrite_any (h : Mh) (w0 w : World) (m : Hx.Ms) (sv : Value) (e : Nat) (hs : Stat h w0) (hm : Mem h w0 w m sv (stsCells m.sts)) (he : e < 6) (hk : 2 ≤ e → m.k < h.l.length) (hsl : m.sts.length ≤ h.l.length) (hst : ∀ p ∈ m.sts, p.1 ≤ 3000000 ∧ ∀ v, p.2 = some v → v ≤ 3000000) (hon : Onm w) (hp10 : P10 w) :
    Calls Tryd.prog 44 #[.pointer (some ⟨h.b, 0, none⟩), .int .i64 (e : Int)] w fun r w' => r = .returned (.string ⟨(Hx.tellF h.l (e, m)).toArray⟩) ∧ Below w.heap.size w w' := by
  have hll := hs.ll
  have hb0 := hm.gr.size
  have hbs := hs.lt
  obtain ⟨o1, o2⟩ := hon e he
  have z1 : w.cell? ⟨h.b, 1, none⟩ = some h.tv := blk_cell hm.blk 1
  have z5 : w.cell? ⟨h.b, 5, none⟩ = some (.int .i64 (m.k : Int)) := blk_cell hm.blk 5
  have z7 : w.cell? ⟨h.b, 7, none⟩ = some sv := blk_cell hm.blk 7
  have HZ1 := hide z1
  have HZ5 := hide z5
  have HZ7 := hide z7
  have HO1 := hide o1
  have HO2 := hide o2
  have HT := hide (hm.t hs)
  have HROW := hide hm.row
  have HOK := hide hs.ok
  have HK := hide hk
  have HST := hide hst
  have HP10 := hide hp10
  have HGO : Hid (0 < w.heap.size) := World.block_lt_of_cell? w ⟨0, e * 2, none⟩ o1
  have hob := outB_len e
  clear hs hm hon z1 z5 z7 o1 o2 hk hst hp10
  have heI : (e : Int) < 6 := by omega
  have HBD0 := hide (Bd.fresh w)
  have HBE0 := hide (belA (.cells #[.pointer none, .slice none 0 0] 135) (Below.refl w.heap.size w))
  go_enter Tryd.func44, Tryd.ntmps44
  go_upto_region 2 with fail
  generalize w.alloc (.cells #[.pointer none, .slice none 0 0] 135) = wa at *
  have a1 : wa.cell? ⟨0, e * 2, none⟩ = some (.string ⟨(Hx.outB e).toArray⟩) := cBel (unhide HBE0) (unhide HO1)
  go_upto_region 3 with (go_at_call 52; refine (wsd_any w.heap.size w.heap.size [] _ _ (unhide HBD0) (by rw [bsz]; simp only [List.length_nil]; omega) (unhide HBE0).size).mono ?_; rintro r w1 ⟨rfl, hbd1, hb1, _⟩; have HBD1 : Hid (Bd w.heap.size w.heap.size (Hx.outB e) w1) := hbd1; have HBE1 := hide (belW hb1 (unhide HBE0)); have a2 : w1.cell? ⟨0, e * 2 + 1, none⟩ = some (.bool (decide (2 ≤ e))) := cBel (belW hb1 (unhide HBE0)) (unhide HO2); clear hbd1 hb1)
  clear a1 HBD0 HBE0
  go_upto_if 16 with fail
  go_cut [] (fun wc => Bd w.heap.size w.heap.size (Hx.outB e ++ (if 2 ≤ e then [32] ++ Hx.nameAt h.l m.k else [])) wc ∧ Below w.heap.size w wc)
  case first =>
    by_cases h2 : 2 ≤ e
    · have hkl := unhide HK h2
      obtain ⟨x, hx⟩ : ∃ x, h.l[m.k]? = some x := ⟨_, List.getElem?_eq_getElem hkl⟩
      have hxok := unhide HOK x (List.mem_of_getElem? hx)
      have h2b : decide (2 ≤ e) = true := by simpa using h2
      have HTX : Hid ((if 2 ≤ e then [32] ++ Hx.nameAt h.l m.k else []) = [32] ++ Hx.nmB x.pl x.no) := by
        show _ = _
        rw [if_pos h2, Hx.nameAt_some hx]
      obtain ⟨gt, capt, etv, _, _⟩ := own_pos (unhide HT) (by omega)
      have hrow := unhide HT
      rw [etv] at hrow
      have HPT := hide (pt_cells hrow rfl hx)
      have hkI : (m.k : Int) < (h.l.length : Int) := by omega
      have hk0 : (0 : Int) ≤ (m.k : Int) := by omega
      have SF : Hid (∀ w', Below w.heap.size w w' → (w'.cell? ⟨h.b, 1, none⟩ = some (.slice (some ⟨gt, 0, none⟩) h.l.length capt) ∧ w'.cell? ⟨h.b, 5, none⟩ = some (.int .i64 (m.k : Int)) ∧ w'.cell? ⟨gt, m.k * 11, none⟩ = some (.int .i64 (x.lo : Int)) ∧ w'.cell? ⟨gt, m.k * 11 + 1, none⟩ = some (.int .i64 (x.hi : Int)) ∧ w'.cell? ⟨gt, m.k * 11 + 2, none⟩ = some (.bool x.rest) ∧ w'.cell? ⟨gt, m.k * 11 + 3, none⟩ = some (.int .i64 (x.mn : Int)) ∧ w'.cell? ⟨gt, m.k * 11 + 4, none⟩ = some (.int .i64 (x.mx : Int)) ∧ w'.cell? ⟨gt, m.k * 11 + 5, none⟩ = some (.int .i64 (x.pl : Int)) ∧ w'.cell? ⟨gt, m.k * 11 + 6, none⟩ = some (.int .i64 (x.no : Int)) ∧ w'.cell? ⟨gt, m.k * 11 + 7, none⟩ = some (.bool (decide (0 ≤ x.inn))))) := fun w' hw' => by
        obtain ⟨x0, x1, x2, x3, x4, x5, x6, x7, _⟩ := unhide HPT
        have q1 := unhide HZ1
        rw [etv] at q1
        exact ⟨cBel hw' q1, cBel hw' (unhide HZ5), cBel hw' x0, cBel hw' x1, cBel hw' x2, cBel hw' x3, cBel hw' x4, cBel hw' x5, cBel hw' x6, cBel hw' x7⟩
      obtain ⟨s1, s5, t0, t1, t2, t3, t4, t5, t6, t7⟩ := unhide SF w1 (unhide HBE1)
      have hpl := hxok.pl
      have hno := hxok.no
      have hnn : ¬ 9223372036854775807 < 1 + (Hx.nameB x.pl x.no).size := by show ¬ _ < 1 + 2; omega
      have HLEN : Hid ((Hx.outB e).length + ((⟨#[32]⟩ : ByteArray) ++ Hx.nameB x.pl x.no).size ≤ 1000000) := by
        show _ ≤ _
        rw [ByteArray.size_append]
        show _ + (1 + 2) ≤ _
        omega
      have HBE := HBE1
      clear hx hxok h2 hrow etv hkl
      rw [h2b] at a2 ⊢
      go_wp2_with fail
      go_region_held3 (fun w' => w'.cell? ⟨h.b, 1, none⟩ = some (.slice (some ⟨gt, 0, none⟩) h.l.length capt) ∧ w'.cell? ⟨h.b, 5, none⟩ = some (.int .i64 (m.k : Int)) ∧ w'.cell? ⟨gt, m.k * 11, none⟩ = some (.int .i64 (x.lo : Int)) ∧ w'.cell? ⟨gt, m.k * 11 + 1, none⟩ = some (.int .i64 (x.hi : Int)) ∧ w'.cell? ⟨gt, m.k * 11 + 2, none⟩ = some (.bool x.rest) ∧ w'.cell? ⟨gt, m.k * 11 + 3, none⟩ = some (.int .i64 (x.mn : Int)) ∧ w'.cell? ⟨gt, m.k * 11 + 4, none⟩ = some (.int .i64 (x.mx : Int)) ∧ w'.cell? ⟨gt, m.k * 11 + 5, none⟩ = some (.int .i64 (x.pl : Int)) ∧ w'.cell? ⟨gt, m.k * 11 + 6, none⟩ = some (.int .i64 (x.no : Int)) ∧ w'.cell? ⟨gt, m.k * 11 + 7, none⟩ = some (.bool (decide (0 ≤ x.inn)))) (exact unhide SF _ (by (repeat with_reducible (first | exact unhide HBE | apply belD | apply belN | refine belB (by assumption) ?_ | refine belW (by assumption) ?_))))
        (first
          | (go_at_call 33; refine (tname_any ⟨⟨x.lo, x.hi, x.rest, x.mn, x.mx⟩, x.pl, x.no, decide (0 ≤ x.inn)⟩ _ (by simp only; omega) hno).mono ?_; rintro r w2 ⟨rfl, hb2⟩)
          | (go_at_call 52; refine (wsd_any w.heap.size w.heap.size (Hx.outB e) _ _ ?_ (unhide HLEN) ?_).mono ?_; (repeat with_reducible (first | exact unhide HBD1 | apply Bd.drew | apply Bd.drewN | refine Bd.below (by assumption) ?_)); (refine Below.size (B := w.heap.size) (w := w) ?_; (repeat with_reducible (first | exact unhide HBE | apply belD | apply belN | refine belB (by assumption) ?_ | refine belW (by assumption) ?_))); rintro r w4 ⟨rfl, hbd4, hb4, _⟩))
      all_goals
        go_wp2_with fail
        go_meet
        case rel =>
          refine ⟨?_, ?_⟩
          · rw [unhide HTX]
            have e1 : ((⟨#[32]⟩ : ByteArray) ++ Hx.nameB x.pl x.no).data.toList = [32] ++ Hx.nmB x.pl x.no := by rw [ByteArray.data_append]; rfl
            rw [e1] at hbd4
            exact hbd4
          · (repeat with_reducible (first | exact unhide HBE | apply belD | apply belN | refine belB (by assumption) ?_ | refine belW (by assumption) ?_))
    · have h2b : decide (2 ≤ e) = false := by simpa using h2
      have HTX : Hid ((if 2 ≤ e then [32] ++ Hx.nameAt h.l m.k else []) = []) := if_neg h2
      clear h2
      rw [h2b] at a2 ⊢
      go_wp2_with fail
      go_meet
      case rel => exact ⟨by rw [unhide HTX, List.append_nil]; exact unhide HBD1, unhide HBE1⟩
  case rest =>
    obtain ⟨hbd2, hbe2⟩ := hcut
    obtain ⟨HD, hHD⟩ : ∃ HD, HD = Hx.outB e ++ (if 2 ≤ e then [32] ++ Hx.nameAt h.l m.k else []) := ⟨_, rfl⟩
    rw [← hHD] at hbd2
    have HTELL : Hid (Hx.tellF h.l (e, m) = HD ++ [59] ++ Hx.evB h.l m.sts) := by
      show _ = _
      rw [hHD]; rfl
    have hhdl : HD.length ≤ 10 := by
      rw [hHD]
      have h1 : (if 2 ≤ e then [32] ++ Hx.nameAt h.l m.k else []).length ≤ 3 := by
        split
        · unfold Hx.nameAt
          split <;> simp [Hx.nmB]
        · simp
      rw [List.length_append]; omega
    have HBD2 := hide hbd2
    have HBE2 := hide hbe2
    clear hbd2 hbe2 hHD a2 HBD1 HBE1 HO1 HO2 HK HZ5
    have HEV := hide (fun i => evB_len h.l (m.sts.take i) (fun p hp => unhide HST p (List.mem_of_mem_take hp)))
    go_upto_region 6 with (go_at_call 52; refine (wsd_any w.heap.size w.heap.size HD _ _ (unhide HBD2) (by show HD.length + 1 ≤ _; omega) (unhide HBE2).size).mono ?_; rintro r w3 ⟨rfl, hbd3, hb3, _⟩; have HBD3 : Hid (Bd w.heap.size w.heap.size (HD ++ [59]) w3) := hbd3; have HBE3 := hide (belW hb3 (unhide HBE2)); clear hbd3 hb3)
    obtain ⟨as', caps, esv⟩ := own_form (unhide HROW)
    have c7 : w3.cell? ⟨h.b, 7, none⟩ = some (.slice as' m.sts.length caps) := by
      have := cBel (unhide HBE3) (unhide HZ7)
      rw [esv] at this; exact this
    have HES := hide esv
    clear esv HBD2 HBE2
    go_wp2_with fail
    go_loopg [38] m.sts.length (fun gk kk wr => ∃ i : Nat, i ≤ m.sts.length ∧ gk = m.sts.length - i ∧ kk = .int .i64 (i : Int) ∧ Bd w.heap.size w.heap.size (HD ++ [59] ++ Hx.evB h.l (m.sts.take i)) wr ∧ Below w.heap.size w wr)
    case atStart => exact ⟨0, Nat.zero_le _, rfl, rfl, by rw [List.take_zero, Hx.evB_nil, List.append_nil]; exact unhide HBD3, unhide HBE3⟩
    case round =>
      clear HBD3 HBE3 c7
      obtain ⟨i, hi, rfl, rfl, hbd, hbe⟩ := hrel
      have hevl := unhide HEV i
      rw [List.length_take] at hevl
      by_cases hlt : i < m.sts.length
      · obtain ⟨p, hp⟩ : ∃ p, m.sts[i]? = some p := ⟨_, List.getElem?_eq_getElem hlt⟩
        obtain ⟨x, hx⟩ : ∃ x, h.l[i]? = some x := ⟨_, List.getElem?_eq_getElem (by omega)⟩
        have hxok := unhide HOK x (List.mem_of_getElem? hx)
        have hpl := hxok.pl
        have hno := hxok.no
        obtain ⟨hp1, hp2⟩ := unhide HST p (List.mem_of_getElem? hp)
        have hsbl := stintB_len p hp1 hp2
        obtain ⟨g, capg, eg, hg1, hg2⟩ := own_pos (unhide HROW) (by omega)
        have hrw := unhide HROW
        rw [eg] at hrw
        have v0 : wr.cell? ⟨g, i * 3, none⟩ = some (.int .i64 (p.1 : Int)) := cBel hbe (by
          rw [hrw.cellAt (i * 3) (by omega)]
          have := stsCells_at m.sts i p hp 0 (by omega)
          rw [Nat.add_zero] at this
          rw [this]; rfl)
        have v1 : wr.cell? ⟨g, i * 3 + 1, none⟩ = some (.int .i64 ((p.2.getD 0 : Nat) : Int)) := cBel hbe (by rw [hrw.cellAt (i * 3 + 1) (by omega), stsCells_at m.sts i p hp 1 (by omega)]; rfl)
        have v2 : wr.cell? ⟨g, i * 3 + 2, none⟩ = some (.bool p.2.isSome) := cBel hbe (by rw [hrw.cellAt (i * 3 + 2) (by omega), stsCells_at m.sts i p hp 2 (by omega)]; rfl)
        rw [unhide HES] at eg
        cases eg
        obtain ⟨gt, capt, etv, _, _⟩ := own_pos (unhide HT) (by omega)
        have hrow := unhide HT
        rw [etv] at hrow
        have HPT := hide (pt_cells hrow rfl hx)
        have hiI : (i : Int) < (m.sts.length : Int) := by omega
        have hilI : (i : Int) < (h.l.length : Int) := by omega
        have hi0 : (0 : Int) ≤ (i : Int) := by omega
        have HTK : Hid (m.sts.take (i + 1) = m.sts.take i ++ [p]) := by show _ = _; rw [List.take_add_one, hp]; rfl
        have hti : (m.sts.take i).length = i := by rw [List.length_take]; omega
        have HSN := hide (Hx.evB_snoc h.l (m.sts.take i) x p (by rw [hti]; exact hx))
        obtain ⟨tb, htbe⟩ : ∃ tb, tb = wr.heap.size := ⟨_, rfl⟩
        have htbw : tb ≠ w.heap.size := by
          have := (Bd.lt hbd)
          omega
        have HTB := hide (bN #[.int .i64 (p.1 : Int), .int .i64 ((p.2.getD 0 : Nat) : Int), .bool p.2.isSome] 155 (w := wr) htbe)
        have HBD := hide (Bd.alloc (.cells #[.int .i64 (p.1 : Int), .int .i64 ((p.2.getD 0 : Nat) : Int), .bool p.2.isSome] 155) hbd)
        have HBE := hide (belA (.cells #[.int .i64 (p.1 : Int), .int .i64 ((p.2.getD 0 : Nat) : Int), .bool p.2.isSome] 155) hbe)
        clear hbd hbe hp hx hxok hrw hrow
        go_upto_region 9 with fail
        rw [← htbe]
        clear htbe v0 v1 v2
        generalize wr.alloc (.cells #[.int .i64 (p.1 : Int), .int .i64 ((p.2.getD 0 : Nat) : Int), .bool p.2.isSome] 155) = wx at *
        have SF : Hid (∀ w', Below w.heap.size w w' → w'.heap[tb]? = some (.cells #[.int .i64 (p.1 : Int), .int .i64 ((p.2.getD 0 : Nat) : Int), .bool p.2.isSome] 155 (0, 0)) → (w'.cell? ⟨h.b, 1, none⟩ = some (.slice (some ⟨gt, 0, none⟩) h.l.length capt) ∧ w'.cell? ⟨gt, i * 11, none⟩ = some (.int .i64 (x.lo : Int)) ∧ w'.cell? ⟨gt, i * 11 + 1, none⟩ = some (.int .i64 (x.hi : Int)) ∧ w'.cell? ⟨gt, i * 11 + 2, none⟩ = some (.bool x.rest) ∧ w'.cell? ⟨gt, i * 11 + 3, none⟩ = some (.int .i64 (x.mn : Int)) ∧ w'.cell? ⟨gt, i * 11 + 4, none⟩ = some (.int .i64 (x.mx : Int)) ∧ w'.cell? ⟨gt, i * 11 + 5, none⟩ = some (.int .i64 (x.pl : Int)) ∧ w'.cell? ⟨gt, i * 11 + 6, none⟩ = some (.int .i64 (x.no : Int)) ∧ w'.cell? ⟨gt, i * 11 + 7, none⟩ = some (.bool (decide (0 ≤ x.inn))) ∧ w'.cell? ⟨tb, 0, none⟩ = some (.int .i64 (p.1 : Int)) ∧ w'.cell? ⟨tb, 1, none⟩ = some (.int .i64 ((p.2.getD 0 : Nat) : Int)) ∧ w'.cell? ⟨tb, 2, none⟩ = some (.bool p.2.isSome))) := fun w' hw' htb' => by
          obtain ⟨x0, x1, x2, x3, x4, x5, x6, x7, _⟩ := unhide HPT
          have q1 := unhide HZ1
          rw [etv] at q1
          exact ⟨cBel hw' q1, cBel hw' x0, cBel hw' x1, cBel hw' x2, cBel hw' x3, cBel hw' x4, cBel hw' x5, cBel hw' x6, cBel hw' x7, blk_cell htb' 0, blk_cell htb' 1, blk_cell htb' 2⟩
        clear etv
        have hn1 : ¬ 9223372036854775807 < (Hx.nameB x.pl x.no).size + 1 := by show ¬ _ < 2 + 1; omega
        have hn2 : ¬ 9223372036854775807 < (Hx.nameB x.pl x.no).size + 1 + (Hx.stintB p).length := by show ¬ _ < 2 + 1 + _; omega
        by_cases hz : i = 0
        · have HEND : Hid (HD ++ [59] ++ Hx.evB h.l (m.sts.take (i + 1)) = HD ++ [59] ++ Hx.evB h.l (m.sts.take i) ++ Hx.entB x p) := by
            show _ = _
            rw [unhide HTK, unhide HSN, hz, List.take_zero, if_pos rfl, Hx.evB_nil, List.append_nil]
          have hzI : ¬ (0 : Int) < (i : Int) := by omega
          clear hz HTK HSN
          obtain ⟨s1, t0, t1, t2, t3, t4, t5, t6, t7, y0, y1, y2⟩ := unhide SF wx (unhide HBE) (unhide HTB)
          have HLEN : Hid ((HD ++ [59] ++ Hx.evB h.l (m.sts.take i)).length + (Hx.nameB x.pl x.no ++ ⟨#[58]⟩ ++ (⟨(Hx.stintB p).toArray⟩ : ByteArray)).size ≤ 1000000) := by
            show _ ≤ _
            rw [ByteArray.size_append, ByteArray.size_append, bsz (Hx.stintB p)]
            have e1 : (Hx.nameB x.pl x.no).size = 2 := rfl
            have e2 : (⟨#[58]⟩ : ByteArray).size = 1 := rfl
            rw [e1, e2]
            simp only [List.length_append, List.length_cons, List.length_nil]; omega
          go_upto_region 11 with fail
          go_region_held3 (fun w' => (w'.cell? ⟨h.b, 1, none⟩ = some (.slice (some ⟨gt, 0, none⟩) h.l.length capt) ∧ w'.cell? ⟨gt, i * 11, none⟩ = some (.int .i64 (x.lo : Int)) ∧ w'.cell? ⟨gt, i * 11 + 1, none⟩ = some (.int .i64 (x.hi : Int)) ∧ w'.cell? ⟨gt, i * 11 + 2, none⟩ = some (.bool x.rest) ∧ w'.cell? ⟨gt, i * 11 + 3, none⟩ = some (.int .i64 (x.mn : Int)) ∧ w'.cell? ⟨gt, i * 11 + 4, none⟩ = some (.int .i64 (x.mx : Int)) ∧ w'.cell? ⟨gt, i * 11 + 5, none⟩ = some (.int .i64 (x.pl : Int)) ∧ w'.cell? ⟨gt, i * 11 + 6, none⟩ = some (.int .i64 (x.no : Int)) ∧ w'.cell? ⟨gt, i * 11 + 7, none⟩ = some (.bool (decide (0 ≤ x.inn))) ∧ w'.cell? ⟨tb, 0, none⟩ = some (.int .i64 (p.1 : Int)) ∧ w'.cell? ⟨tb, 1, none⟩ = some (.int .i64 ((p.2.getD 0 : Nat) : Int)) ∧ w'.cell? ⟨tb, 2, none⟩ = some (.bool p.2.isSome))) (exact unhide SF _ (by (repeat with_reducible (first | exact unhide HBE | apply belD | apply belN | refine belB (by assumption) ?_ | refine belW (by assumption) ?_))) (by (repeat with_reducible (first | exact unhide HTB | apply bD | apply bN' | refine bBel (by assumption) ?_ | refine bKept (by assumption) htbw ?_))))
            (first
              | (go_at_call 33; refine (tname_any ⟨⟨x.lo, x.hi, x.rest, x.mn, x.mx⟩, x.pl, x.no, decide (0 ≤ x.inn)⟩ _ (by simp only; omega) hno).mono ?_; rintro r w5 ⟨rfl, hb5⟩)
              | (go_at_call 64; refine (stint_any p _ hp1 hp2 ?_).mono ?_; (refine (unhide HP10).below ?_; (repeat with_reducible (first | exact unhide HBE | apply belD | apply belN | refine belB (by assumption) ?_ | refine belW (by assumption) ?_))); rintro r w6 ⟨rfl, hb6⟩)
              | (go_at_call 52; refine (wsd_any w.heap.size w.heap.size (HD ++ [59] ++ Hx.evB h.l (m.sts.take i)) _ _ ?_ (unhide HLEN) ?_).mono ?_; (repeat with_reducible (first | exact unhide HBD | apply Bd.drew | apply Bd.drewN | refine Bd.below (by assumption) ?_)); (refine Below.size (B := w.heap.size) (w := w) ?_; (repeat with_reducible (first | exact unhide HBE | apply belD | apply belN | refine belB (by assumption) ?_ | refine belW (by assumption) ?_))); rintro r w7 ⟨rfl, hbd7, hb7, hk7⟩))
          all_goals
            go_wp2_with fail
            go_roundg (m.sts.length - (i + 1))
            case measure => omega
            case rel =>
              refine ⟨i + 1, by omega, rfl, by go_num, ?_, ?_⟩
              · rw [unhide HEND]
                have e1 : (Hx.nameB x.pl x.no ++ ⟨#[58]⟩ ++ (⟨(Hx.stintB p).toArray⟩ : ByteArray)).data.toList = Hx.entB x p := by rw [ByteArray.data_append, ByteArray.data_append]; simp [Hx.entB, Hx.nameB, Hx.nmB]
                rw [e1] at hbd7
                exact hbd7
              · (repeat with_reducible (first | exact unhide HBE | apply belD | apply belN | refine belB (by assumption) ?_ | refine belW (by assumption) ?_))
        · have HEND : Hid (HD ++ [59] ++ Hx.evB h.l (m.sts.take (i + 1)) = HD ++ [59] ++ Hx.evB h.l (m.sts.take i) ++ [44] ++ Hx.entB x p) := by
            show _ = _
            have hne : m.sts.take i ≠ [] := fun e0 => hz (by rw [← hti, e0]; rfl)
            rw [unhide HTK, unhide HSN, if_neg hne]
            simp [List.append_assoc]
          have hzI : (0 : Int) < (i : Int) := by omega
          clear hz HTK HSN
          go_upto_region 11 with (go_at_call 52; refine (wsd_any w.heap.size w.heap.size _ _ _ (unhide HBD) (by show _ + 1 ≤ _; simp only [List.length_append, List.length_cons, List.length_nil]; omega) (unhide HBE).size).mono ?_; rintro r w4 ⟨rfl, hbd4, hb4, hk4⟩; have HBD4 : Hid (Bd w.heap.size w.heap.size (HD ++ [59] ++ Hx.evB h.l (m.sts.take i) ++ [44]) w4) := hbd4; have HBE4 := hide (belW hb4 (unhide HBE)); have HTB4 := hide (bKept hk4 htbw (unhide HTB)); clear hbd4 hb4 hk4)
          obtain ⟨s1, t0, t1, t2, t3, t4, t5, t6, t7, y0, y1, y2⟩ := unhide SF w4 (unhide HBE4) (unhide HTB4)
          have HLEN : Hid ((HD ++ [59] ++ Hx.evB h.l (m.sts.take i) ++ [44]).length + (Hx.nameB x.pl x.no ++ ⟨#[58]⟩ ++ (⟨(Hx.stintB p).toArray⟩ : ByteArray)).size ≤ 1000000) := by
            show _ ≤ _
            rw [ByteArray.size_append, ByteArray.size_append, bsz (Hx.stintB p)]
            have e1 : (Hx.nameB x.pl x.no).size = 2 := rfl
            have e2 : (⟨#[58]⟩ : ByteArray).size = 1 := rfl
            rw [e1, e2]
            simp only [List.length_append, List.length_cons, List.length_nil]; omega
          go_region_held3 (fun w' => (w'.cell? ⟨h.b, 1, none⟩ = some (.slice (some ⟨gt, 0, none⟩) h.l.length capt) ∧ w'.cell? ⟨gt, i * 11, none⟩ = some (.int .i64 (x.lo : Int)) ∧ w'.cell? ⟨gt, i * 11 + 1, none⟩ = some (.int .i64 (x.hi : Int)) ∧ w'.cell? ⟨gt, i * 11 + 2, none⟩ = some (.bool x.rest) ∧ w'.cell? ⟨gt, i * 11 + 3, none⟩ = some (.int .i64 (x.mn : Int)) ∧ w'.cell? ⟨gt, i * 11 + 4, none⟩ = some (.int .i64 (x.mx : Int)) ∧ w'.cell? ⟨gt, i * 11 + 5, none⟩ = some (.int .i64 (x.pl : Int)) ∧ w'.cell? ⟨gt, i * 11 + 6, none⟩ = some (.int .i64 (x.no : Int)) ∧ w'.cell? ⟨gt, i * 11 + 7, none⟩ = some (.bool (decide (0 ≤ x.inn))) ∧ w'.cell? ⟨tb, 0, none⟩ = some (.int .i64 (p.1 : Int)) ∧ w'.cell? ⟨tb, 1, none⟩ = some (.int .i64 ((p.2.getD 0 : Nat) : Int)) ∧ w'.cell? ⟨tb, 2, none⟩ = some (.bool p.2.isSome))) (exact unhide SF _ (by (repeat with_reducible (first | exact unhide HBE4 | apply belD | apply belN | refine belB (by assumption) ?_ | refine belW (by assumption) ?_))) (by (repeat with_reducible (first | exact unhide HTB4 | apply bD | apply bN' | refine bBel (by assumption) ?_ | refine bKept (by assumption) htbw ?_))))
            (first
              | (go_at_call 33; refine (tname_any ⟨⟨x.lo, x.hi, x.rest, x.mn, x.mx⟩, x.pl, x.no, decide (0 ≤ x.inn)⟩ _ (by simp only; omega) hno).mono ?_; rintro r w5 ⟨rfl, hb5⟩)
              | (go_at_call 64; refine (stint_any p _ hp1 hp2 ?_).mono ?_; (refine (unhide HP10).below ?_; (repeat with_reducible (first | exact unhide HBE4 | apply belD | apply belN | refine belB (by assumption) ?_ | refine belW (by assumption) ?_))); rintro r w6 ⟨rfl, hb6⟩)
              | (go_at_call 52; refine (wsd_any w.heap.size w.heap.size (HD ++ [59] ++ Hx.evB h.l (m.sts.take i) ++ [44]) _ _ ?_ (unhide HLEN) ?_).mono ?_; (repeat with_reducible (first | exact unhide HBD4 | apply Bd.drew | apply Bd.drewN | refine Bd.below (by assumption) ?_)); (refine Below.size (B := w.heap.size) (w := w) ?_; (repeat with_reducible (first | exact unhide HBE4 | apply belD | apply belN | refine belB (by assumption) ?_ | refine belW (by assumption) ?_))); rintro r w7 ⟨rfl, hbd7, hb7, hk7⟩))
          all_goals
            go_wp2_with fail
            go_roundg (m.sts.length - (i + 1))
            case measure => omega
            case rel =>
              refine ⟨i + 1, by omega, rfl, by go_num, ?_, ?_⟩
              · rw [unhide HEND]
                have e1 : (Hx.nameB x.pl x.no ++ ⟨#[58]⟩ ++ (⟨(Hx.stintB p).toArray⟩ : ByteArray)).data.toList = Hx.entB x p := by rw [ByteArray.data_append, ByteArray.data_append]; simp [Hx.entB, Hx.nameB, Hx.nmB]
                rw [e1] at hbd7
                exact hbd7
              · (repeat with_reducible (first | exact unhide HBE4 | apply belD | apply belN | refine belB (by assumption) ?_ | refine belW (by assumption) ?_))
      · have hie : i = m.sts.length := by omega
        subst hie
        rw [List.take_length] at hbd
        have HBD := hide hbd
        have HBE := hide hbe
        have hlI : ¬ (m.sts.length : Int) < (m.sts.length : Int) := by omega
        clear hbd hbe
        go_wp2_with (go_at_call 57; refine (Tryd.Builder_String_any w.heap.size w.heap.size _ _ (unhide HBD) (unhide HBE).size).mono ?_; rintro r w9 ⟨rfl, hb9⟩; have HB9 := hide hb9; clear hb9)
        go_returns
        exact ⟨ret_str (by rw [unhide HTELL]; simp), belW (unhide HB9) (unhide HBE)⟩

end Go.Proofs.YtppcnlkhdgmaiaaDoor
