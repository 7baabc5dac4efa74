/- Laws for the document's reading of a whole protocol: an append that tells where the new slice lies; the steps with their plates and numbers. What the document's Decimal and Name do: the digits of a number, a step's name. What the document's helpers for orders do: with (a list with one number more, copied). What lies in memory while the document reads a protocol, and what is still to be read. -/
import Derived.Test.YtppcnlkhdgmaiabGreatDoorCRfB
import Derived.Test.YtppcnlkhdgmaiabGreatDoorCPg
namespace Go.Proofs.YtppcnlkhdgmaiabGreatDoor
open Go.RowKit

/-- append onto a slice that the call itself made: the new slice lies where the old one lay, or in a new block. -/
theorem run_append_own2 {P : Program} (w : World) (base : Nat) (t ty e : TypeId) (i : TypeInfo) (z : Value) (size bytes : Nat) (ht : P.underlying t = some (.slice e)) (hi : P.info? e = some i) (hz : i.zero = some z)
    (hsize : i.size = size) (hby : i.bytes = bytes) (hzs : z.cells.size = size) (hsz : 0 < size)
    (v : Value) (n : Nat) (xs : List Value) (hown : w.ownsRow base e size v n xs)
    (a : Addr) (m c : Nat) (news : List Value) (hl : news.length = m * size) (hnews : ∀ j u, news[j]? = some u → w.cell? (a.add j) = some u) (h1 : ∀ u ∈ news, u.oneCell' = true)
    (h63 : n + m ≤ maxLen) (hbytes : (n + m) * bytes ≤ 140737488355328) (hbase : base ≤ w.heap.size) :
    ∃ v' w', (Builtin.append_ #[t, t] ty #[v, .slice (some a) m c]).run P w = .ok v' w' ∧ w'.ownsRow base e size v' (n + m) (xs ++ news) ∧ w.grownBy w' v.ownBlock ∧
      (∀ k, v'.ownBlock = some k → v.ownBlock = some k ∨ w.heap.size ≤ k) := by
  rcases hown.2 with ⟨rfl, rfl⟩ | ⟨g, cap, cur, rfl, hbg, hh, hrest⟩
  · obtain rfl : xs = [] := List.eq_nil_of_length_eq_zero (by simpa using hown.1)
    obtain ⟨v', w', hr, h2, h3, _⟩ := run_append_own (P := P) w w.heap.size t ty e i z size bytes ht hi hz hsize hby hzs hsz (.slice none 0 0) 0 [] (World.ownsRow_nil w _ e size) a m c news hl hnews h1 h63 hbytes (Nat.le_refl _)
    exact ⟨v', w', hr, own_mono h2 hbase, h3, fun k hk => Or.inr (h2.lt k hk).1⟩
  · by_cases hroom : n + m ≤ cap
    · obtain ⟨w', hr, h2, h3⟩ := run_append_fits (P := P) w base t ty e i size ht hi hsize g n cap xs hown a m c news hl hnews h1 hroom
      exact ⟨_, w', hr, h2, h3, fun k hk => Or.inl hk⟩
    · obtain ⟨v', w', hr, h2, h3⟩ := run_append_arg_grows (P := P) w t ty e i z size bytes ht hi hz hsize hby hzs hsz ⟨g, 0, none⟩ n cap xs hown.1 (hown.cells rfl) a m c news hl hnews (by omega) h63 hbytes
      exact ⟨v', w', hr, own_mono h2 hbase, ⟨h3.os, h3.tape, h3.output, h3.size, fun k hk _ => h3.block k hk (by simp)⟩, fun k hk => Or.inr (h2.lt k hk).1⟩

theorem wpList_append_own2 {P : Program} (w : World) {ops : Array Oper} {rest : List Oper} {o : Oper} {a : Act} {Q : Exit → Act → World → Prop} (hgd : o.guard = none) (s x : Operand) (t : TypeId)
    (ho : o.op = .call { callee := .builtin .append, args := #[s, x], argTypes := #[t, t] })
    (base : Nat) (e : TypeId) (i : TypeInfo) (z : Value) (size bytes : Nat) (ht : P.underlying t = some (.slice e)) (hi : P.info? e = some i) (hz : i.zero = some z)
    (hsize : i.size = size) (hby : i.bytes = bytes) (hzs : z.cells.size = size) (hsz : 0 < size)
    (v : Value) (n : Nat) (xs : List Value) (hs : a.eval s = v) (hown : w.ownsRow base e size v n xs)
    (ad : Addr) (m c : Nat) (news : List Value) (hx : a.eval x = .slice (some ad) m c) (hl : news.length = m * size) (hnews : ∀ j u, news[j]? = some u → w.cell? (ad.add j) = some u) (h1 : ∀ u ∈ news, u.oneCell' = true)
    (h63 : n + m ≤ maxLen) (hbytes : (n + m) * bytes ≤ 140737488355328) (hbase : base ≤ w.heap.size)
    (h : ∀ v' w', w'.ownsRow base e size v' (n + m) (xs ++ news) → w.grownBy w' v.ownBlock → (∀ k, v'.ownBlock = some k → v.ownBlock = some k ∨ w.heap.size ≤ k) → wpList P ops Q rest (a.put o.dst v') w') : wpList P ops Q (o :: rest) a w := by
  refine wpList_plain hgd fun _ hK => ?_
  obtain ⟨v', w', hr, h2, h3, h4⟩ := run_append_own2 (P := P) w base t o.type e i z size bytes ht hi hz hsize hby hzs hsz v n xs hown ad m c news hl hnews h1 h63 hbytes hbase
  unfold Oper.wp execOp
  simp only [ho, resolve, invoke, builtin, Sem.run_bind, Sem.run_pure, Result.andThen_ok, List.map_toArray, List.map_cons, List.map_nil, hs, hx, hr]
  exact hK _ _ (h v' w' h2 h3 h4)

namespace Hx
/-- A step with its plate and its number. -/
structure Lst where
  pl : Nat
  no : Nat
  x : Stp

def lab (i : Nat) (p : List Stp) : List Lst := p.mapIdx fun j x => ⟨i, j, x⟩
def labs (ps : List (List Stp)) : List Lst := (ps.mapIdx lab).flatten
theorem lab_nil (i : Nat) : lab i [] = [] := rfl
theorem labs_nil : labs [] = [] := rfl
theorem lab_snoc (i : Nat) (p : List Stp) (x : Stp) : lab i (p ++ [x]) = lab i p ++ [⟨i, p.length, x⟩] := by simp [lab, List.mapIdx_append]
theorem labs_snoc (ps : List (List Stp)) (p : List Stp) : labs (ps ++ [p]) = labs ps ++ lab ps.length p := by simp [labs, List.mapIdx_append]
theorem lab_x (i : Nat) (p : List Stp) : (lab i p).map (·.x) = p := by
  apply List.ext_getElem?
  intro n
  simp [lab, List.getElem?_mapIdx]
  cases p[n]? <;> rfl
theorem labs_append (ps qs : List (List Stp)) : (labs (ps ++ qs)).map (·.x) = (labs ps).map (·.x) ++ qs.flatten := by
  induction qs generalizing ps with
  | nil => simp
  | cons q r ih =>
    have e : ps ++ q :: r = (ps ++ [q]) ++ r := by simp
    rw [e, ih, labs_snoc, List.map_append, lab_x, List.flatten_cons, List.append_assoc]
theorem labs_x (ps : List (List Stp)) : (labs ps).map (·.x) = ps.flatten := by
  have := labs_append [] ps
  simpa [labs_nil] using this
theorem labs_len (ps : List (List Stp)) : (labs ps).length = ps.flatten.length := by rw [← labs_x, List.length_map]

theorem numF_good {s : ByteArray} {m : Nat} {st : St} (hm : 1 ≤ m) (h : (numF s m st).2.bad = false) : st.bad = false ∧ st.pos + 1 ≤ (numF s m st).2.pos := by
  obtain ⟨pos, bad⟩ := st
  cases bad
  · refine ⟨rfl, ?_⟩
    by_cases h0 : byteAt s pos = 48
    · rw [numF_zero rfl h0]; exact Nat.le_refl _
    · by_cases h1 : 49 ≤ byteAt s pos ∧ byteAt s pos ≤ 57
      · rw [numF_dig rfl h1]
        obtain ⟨k, rfl⟩ : ∃ k, m = k + 1 := ⟨m - 1, by omega⟩
        show pos + 1 ≤ (digF s (k + 1) pos 0).2
        rw [digF_step (by omega)]
        exact digF_ge s k (pos + 1) _
      · rw [numF_no rfl (by simp only; omega)] at h
        cases h
  · rw [numF_bad rfl] at h; cases h
theorem boundsF_good {s : ByteArray} {st : St} (h : (boundsF s st).2.bad = false) : st.bad = false ∧ st.pos + 3 ≤ (boundsF s st).2.pos := by
  have h3 := numF_good (s := s) (m := 3) (by omega) h
  obtain ⟨b2, _, e2⟩ := takeF_good h3.1
  have h1 := numF_good (s := s) (m := 3) (by omega) b2
  refine ⟨h1.1, ?_⟩
  have h4 := h3.2
  rw [e2] at h4
  have h5 := h1.2
  show st.pos + 3 ≤ (numF s 3 (takeF s 45 (numF s 3 st).2)).2.pos
  rw [e2]
  simp only at h4
  omega
theorem openF_good {s : ByteArray} {n : Nat} {st : St} (h : (openF s n st).bad = false) : st.bad = false ∧ st.pos + 3 ≤ (openF s n st).pos := by
  obtain ⟨b2, _, e2⟩ := takeF_good h
  have e3 : openF s n st = ⟨(letterF s n (takeF s 59 st)).pos + 1, false⟩ := e2
  by_cases h26 : n < 26
  · have el : letterF s n (takeF s 59 st) = takeF s (97 + n) (takeF s 59 st) := by rw [letterF, if_pos h26]
    rw [el] at b2 e3
    obtain ⟨b1, _, e1⟩ := takeF_good b2
    obtain ⟨b0, _, e0⟩ := takeF_good b1
    refine ⟨b0, ?_⟩
    rw [e3, e1, e0]
    show st.pos + 3 ≤ st.pos + 1 + 1 + 1
    omega
  · rw [letterF, if_neg h26] at b2
    cases b2
theorem plateF_six {s : ByteArray} {n : Nat} {st : St} (h : (plateF s n st).1.bad = false) : st.bad = false ∧ st.pos + 6 ≤ (plateF s n st).1.pos := by
  have hb : (boundsF s (openF s n st)).2.bad = false := by
    cases hb : (boundsF s (openF s n st)).2.bad
    · rfl
    · unfold plateF at h; rw [afterF_bad hb] at h; simp only at h; rw [hb] at h; cases h
  have h1 := boundsF_good hb
  have h2 := openF_good h1.1
  have h3 : (boundsF s (openF s n st)).2.pos ≤ (plateF s n st).1.pos := afterF_ge s _ _
  exact ⟨h2.1, by omega⟩
end Hx

/-- A step of the document's plan: ten cells. -/
def lstCells (y : Hx.Lst) : List Value := [.int .i64 (y.pl : Int), .int .i64 (y.no : Int), .int .i64 (y.x.lo : Int), .int .i64 (y.x.hi : Int), .bool y.x.rest, .int .i64 (y.x.mn : Int), .int .i64 (y.x.mx : Int), .int .i64 0, .int .i64 0, .int .i64 0]
def lstsCells (l : List Hx.Lst) : List Value := l.flatMap lstCells
theorem lstsCells_snoc (l : List Hx.Lst) (y : Hx.Lst) : lstsCells (l ++ [y]) = lstsCells l ++ lstCells y := by simp [lstsCells]
theorem lstCells_one (y : Hx.Lst) : ∀ u ∈ lstCells y, u.oneCell' = true := by
  intro u hu
  simp [lstCells] at hu
  rcases hu with rfl | rfl | rfl | rfl | rfl | rfl | rfl | rfl <;> rfl

theorem Tryz.info53 : (Tryz.prog.info? 53).map (fun i => (i.zero, i.size, i.bytes)) = some (some (.agg #[.int .i64 0, .int .i64 0, .int .i64 0, .int .i64 0, .bool false, .int .i64 0, .int .i64 0, .int .i64 0, .int .i64 0, .int .i64 0]), 10, 80) := by kernel_rfl

end Go.Proofs.YtppcnlkhdgmaiabGreatDoor
namespace Go.Proofs.YtppcnlkhdgmaiabGreatDoor
open Go.RowKit

namespace Hx
/-- The digits of a number. -/
def decF (n : Nat) : List UInt8 := if n < 10 then [UInt8.ofNat (48 + n)] else decF (n / 10) ++ [UInt8.ofNat (48 + n % 10)]
termination_by n
decreasing_by omega
theorem decF_one {n : Nat} (h : n < 10) : decF n = [UInt8.ofNat (48 + n)] := by rw [decF, if_pos h]
theorem decF_len (n : Nat) : (decF n).length ≤ n + 1 := by
  induction n using decF.induct with
  | case1 n h => rw [decF, if_pos h]; simp
  | case2 n h ih =>
    rw [decF, if_neg h, List.length_append]
    show _ + 1 ≤ _
    omega
theorem decF_more {n : Nat} (h : ¬ n < 10) : decF n = decF (n / 10) ++ [UInt8.ofNat (48 + n % 10)] := by rw [decF, if_neg h]
end Hx

theorem digit_ext : ∀ d, d < 10 → (⟨#[48, 49, 50, 51, 52, 53, 54, 55, 56, 57]⟩ : ByteArray).extract d (d + 1) = ⟨#[UInt8.ofNat (48 + d)]⟩ := by decide
theorem letter_ext : ∀ d, d < 26 → (⟨#[97, 98, 99, 100, 101, 102, 103, 104, 105, 106, 107, 108, 109, 110, 111, 112, 113, 114, 115, 116, 117, 118, 119, 120, 121, 122]⟩ : ByteArray).extract d (d + 1) = ⟨#[UInt8.ofNat (97 + d)]⟩ := by decide
theorem bytes_app (a b : List UInt8) : (⟨a.toArray⟩ : ByteArray) ++ ⟨b.toArray⟩ = ⟨(a ++ b).toArray⟩ := by
  apply ByteArray.ext
  rw [ByteArray.data_append]
  simp
theorem digit_app (d : Nat) (hd : d < 10) (l : List UInt8) : (⟨#[48, 49, 50, 51, 52, 53, 54, 55, 56, 57]⟩ : ByteArray).extract d (d + 1) ++ ⟨l.toArray⟩ = ⟨([UInt8.ofNat (48 + d)] ++ l).toArray⟩ := by
  rw [digit_ext d hd]; exact bytes_app [UInt8.ofNat (48 + d)] l
theorem letter_app (d : Nat) (hd : d < 26) (l : List UInt8) : (⟨#[97, 98, 99, 100, 101, 102, 103, 104, 105, 106, 107, 108, 109, 110, 111, 112, 113, 114, 115, 116, 117, 118, 119, 120, 121, 122]⟩ : ByteArray).extract d (d + 1) ++ ⟨l.toArray⟩ = ⟨([UInt8.ofNat (97 + d)] ++ l).toArray⟩ := by
  rw [letter_ext d hd]; exact bytes_app [UInt8.ofNat (97 + d)] l
theorem ret_str {a b : ByteArray} (h : a = b) : Ending.returned (.string a) = .returned (.string b) := by rw [h]

set_option maxHeartbeats 1000000 in
theorem decimal_any (n0 : Nat) (ni : Int) (w : World) (hn : n0 ≤ 1000000) (hni : ni = (n0 : Int)) :
    Calls Tryz.prog 36 #[.int .i64 ni] w fun e w' => e = .returned (.string ⟨(Hx.decF n0).toArray⟩) ∧ w' = w := by
  subst hni
  go_enter Tryz.func36, Tryz.ntmps36
  go_wp2_with fail
  go_loopg [0, 3] n0 (fun gk n t wr => ∃ l : List UInt8, n = .int .i64 (gk : Int) ∧ t = .string ⟨l.toArray⟩ ∧ gk + l.length ≤ n0 ∧ Hx.decF gk ++ l = Hx.decF n0 ∧ wr = w)
  case atStart => exact ⟨[], rfl, rfl, by simp, by simp, rfl⟩
  case round =>
    obtain ⟨l, rfl, rfl, hm, hd, hw⟩ := hrel
    subst hw
    have HD := hide hd
    clear hd
    by_cases h9 : (9 : Int) < (gk : Int)
    · have hs := hide (digit_app (gk % 10) (by omega) l)
      have HD2 : Hid (Hx.decF (gk / 10) ++ ([UInt8.ofNat (48 + gk % 10)] ++ l) = Hx.decF n0) := by
        show _ = _
        rw [← unhide HD, Hx.decF_more (n := gk) (by omega), List.append_assoc]
      go_wp2_with fail
      go_roundg (gk / 10)
      case measure => omega
      case rel => exact ⟨_, by go_num, by rw [unhide hs], by rw [List.length_append]; show gk / 10 + (1 + l.length) ≤ n0; omega, unhide HD2, rfl⟩
    · have hs := hide (digit_app gk (by omega) l)
      have HD2 : Hid ([UInt8.ofNat (48 + gk)] ++ l = Hx.decF n0) := by
        show _ = _
        rw [← unhide HD, Hx.decF_one (n := gk) (by omega)]
      have h9' : (gk : Int) ≤ 9 := by omega
      clear h9
      go_wp2_with fail
      go_returns
      exact ⟨ret_str (by rw [← unhide HD2]; exact unhide hs), rfl⟩

/-- A step's name. -/
def nameB (pl no : Nat) : List UInt8 := [UInt8.ofNat (97 + pl)] ++ Hx.decF no

set_option maxHeartbeats 1000000 in
theorem name_any (y : Hx.Lst) (t7 t8 t9 : Int) (w : World) (hpl : y.pl < 26) (hno : y.no ≤ 1000000) :
    Calls Tryz.prog 21 #[.agg #[.int .i64 (y.pl : Int), .int .i64 (y.no : Int), .int .i64 (y.x.lo : Int), .int .i64 (y.x.hi : Int), .bool y.x.rest, .int .i64 (y.x.mn : Int), .int .i64 (y.x.mx : Int), .int .i64 t7, .int .i64 t8, .int .i64 t9]] w fun e w' => e = .returned (.string ⟨(nameB y.pl y.no).toArray⟩) ∧ Below w.heap.size w w' := by
  obtain ⟨pl, no, lo, hi, rest, mn, mx⟩ := y
  simp only at *
  have hs := hide (letter_app pl hpl (Hx.decF no))
  have hpl' : (pl : Int) < 26 := by omega
  have hlen : (Hx.decF no).length ≤ 1000001 := Nat.le_trans (Hx.decF_len no) (by omega)
  go_enter Tryz.func21, Tryz.ntmps21
  go_wp2_with fail
  go_quiet ((go_at_call 36; refine Calls.quiet_of_same (decimal_any no _ _ (by omega) rfl)))
  go_wp2_with fail
  go_returns
  exact ⟨ret_str (unhide hs), below_drewN ((Below.refl _ _).alloc (Nat.le_refl _) _) _⟩

end Go.Proofs.YtppcnlkhdgmaiabGreatDoor
namespace Go.Proofs.YtppcnlkhdgmaiabGreatDoor
open Go.RowKit

def ints (xs : List Int) : List Value := xs.map (Value.int .i64)
theorem ints_snoc (xs : List Int) (n : Int) : ints (xs ++ [n]) = ints xs ++ [.int .i64 n] := by simp [ints]
theorem ints_len (xs : List Int) : (ints xs).length = xs.length := by simp [ints]
theorem ints_at (xs : List Int) (k : Nat) (x : Int) (h : xs[k]? = some x) : (ints xs)[k]? = some (.int .i64 x) := by simp [ints, h]
theorem ints_take (xs : List Int) (k : Nat) (x : Int) (h : xs[k]? = some x) : xs.take (k + 1) = xs.take k ++ [x] := by rw [List.take_add_one, h]; rfl

theorem Tryz.info3 : (Tryz.prog.info? 3).map (fun i => (i.zero, i.size, i.bytes)) = some (some (.int .i64 0), 1, 8) := by kernel_rfl

theorem one_news (w : World) (x : Value) (T : TypeId) : ∀ (j : Nat) (u : Value), [x][j]? = some u → (w.alloc (.cells #[x] T)).cell? ((⟨w.heap.size, 0, none⟩ : Addr).add j) = some u := news_new w [x] T

set_option maxHeartbeats 2000000 in
theorem with_own (xs : List Int) (lv : Value) (n : Int) (w : World) (hx : w.ownsRow 0 3 1 lv xs.length (ints xs)) (hl : xs.length ≤ 1000) :
    Calls Tryz.prog 53 #[lv, .int .i64 n] w fun e w' => ∃ v, e = .returned v ∧ w'.ownsRow w.heap.size 3 1 v (xs.length + 1) (ints (xs ++ [n])) ∧ Below w.heap.size w w' := by
  obtain ⟨ao, cap, rfl⟩ := own_form hx
  have HX := hide hx
  clear hx
  obtain ⟨i0, hi, hz0, hz1, hz2⟩ := info_parts Tryz.info3
  have HI := hide hi
  have HZ0 := hide hz0
  have HZ1 := hide hz1
  have HZ2 := hide hz2
  clear hi hz0 hz1 hz2
  go_enter Tryz.func53, Tryz.ntmps53
  go_wp2_with fail
  go_loopg [5, 6] xs.length (fun gk m i wr => ∃ k : Nat, k ≤ xs.length ∧ gk = xs.length - k ∧ i = .int .i64 (k : Int) ∧ wr.ownsRow w.heap.size 3 1 m k (ints (xs.take k)) ∧ Below w.heap.size w wr)
  case atStart => exact ⟨0, Nat.zero_le _, rfl, rfl, World.ownsRow_nil _ _ _ _, Below.refl _ _⟩
  case round =>
    obtain ⟨k, hk, rfl, rfl, hown, hbe⟩ := hrel
    have HOWN := hide hown
    have HBE := hide hbe
    have hsz := hbe.size
    clear hown hbe
    by_cases hlt : k < xs.length
    · obtain ⟨g, cap2, e, _, hg⟩ := own_pos (unhide HX) (by omega)
      cases e
      obtain ⟨x, hxk⟩ : ∃ x, xs[k]? = some x := ⟨xs[k], List.getElem?_eq_getElem hlt⟩
      have cx : wr.cell? ⟨g, k, none⟩ = some (.int .i64 x) := by
        rw [(unhide HBE).cell (p := ⟨g, k, none⟩) hg, (unhide HX).cellAt k (by omega)]
        exact ints_at xs k x hxk
      have HXK := hide (ints_take xs k x hxk)
      clear hxk
      go_wp2_with (at_builtin; refine wpList_append_own _ rfl _ _ 64 rfl w.heap.size 3 i0 (.int .i64 0) 1 8 Tryz.underlying64 (unhide HI) (unhide HZ0) (unhide HZ1) (unhide HZ2) rfl (by decide) _ _ _ rfl ((unhide HOWN).alloc _) ⟨wr.heap.size, 0, none⟩ 1 1 [.int .i64 x] rfl rfl (one_news wr (.int .i64 x) 3) (by simp [Value.oneCell']) (by unfold maxLen; omega) (by omega) (by simp; omega) ?_; intro v' w1 hown' hgrow' _; have HO1 := hide hown'; have HG1 := hide hgrow'; clear hown' hgrow')
      go_roundg (xs.length - (k + 1))
      case measure => omega
      case rel =>
        refine ⟨k + 1, by omega, rfl, by go_num, ?_, ?_⟩
        · rw [unhide HXK, ints_snoc]; exact unhide HO1
        · exact ((unhide HBE).alloc hsz _).grown (unhide HG1) (by simp; omega) (fun j e => ((unhide HOWN).lt j e).1)
    · have hke : k = xs.length := by omega
      subst hke
      have HOWN2 : Hid (wr.ownsRow w.heap.size 3 1 u5 xs.length (ints xs)) := by
        have := unhide HOWN
        rw [List.take_length] at this
        exact this
      go_wp2_with (at_builtin; refine wpList_append_own _ rfl _ _ 64 rfl w.heap.size 3 i0 (.int .i64 0) 1 8 Tryz.underlying64 (unhide HI) (unhide HZ0) (unhide HZ1) (unhide HZ2) rfl (by decide) _ _ _ rfl ((unhide HOWN2).alloc _) ⟨wr.heap.size, 0, none⟩ 1 1 [.int .i64 n] rfl rfl (one_news wr (.int .i64 n) 3) (by simp [Value.oneCell']) (by unfold maxLen; omega) (by omega) (by simp; omega) ?_; intro v' w1 hown' hgrow' _; have HO1 := hide hown'; have HG1 := hide hgrow'; clear hown' hgrow')
      go_returns
      refine ⟨_, rfl, ?_, ?_⟩
      · rw [ints_snoc]; exact unhide HO1
      · exact ((unhide HBE).alloc hsz _).grown (unhide HG1) (by simp; omega) (fun j e => ((unhide HOWN2).lt j e).1)

end Go.Proofs.YtppcnlkhdgmaiabGreatDoor
namespace Go.Proofs.YtppcnlkhdgmaiabGreatDoor
open Go.RowKit

/-- What lies in memory while the document reads a protocol. -/
structure He (s : ByteArray) (w w' : World) (st : Hx.St) (a : Array Value) : Prop where
  rd : Rd 108 s (w.heap.size + 1) st w'
  lo : w'.heap[w.heap.size + 1 + 1]? = some (.cells a 49 (0, 0))
  re : w'.heap[w.heap.size]? = some (.cells #[.int .i64 0, .int .i64 0, .int .i64 0, .slice none 0 0, .int .i64 0] 49 (0, 0))
  be : Below w.heap.size w w'

theorem He.call {s w w' w'' st st' a} (h : He s w w' st a) (hr : Rd 108 s (w.heap.size + 1) st' w'') (hg : w'.grownBy w'' (some (w.heap.size + 1))) : He s w w'' st' a :=
  ⟨hr, blk_kept h.lo hg (by simp), blk_kept h.re hg (by simp), h.be.grown hg h.be.size (by simp)⟩
theorem He.own {s w w' w'' st a} {row : Option Nat} (h : He s w w' st a) (hg : w'.grownBy w'' row) (hrow : ∀ k, row = some k → w.heap.size + 3 ≤ k) : He s w w'' st a :=
  ⟨h.rd.kept hg (fun e => by have := hrow _ e.symm; omega), blk_kept h.lo hg (fun e => by have := hrow _ e.symm; omega), blk_kept h.re hg (fun e => by have := hrow _ e.symm; omega), h.be.grown hg h.be.size (fun k e => by have := hrow k e; omega)⟩
theorem He.store {s w w' st a} (h : He s w w' st a) (o : Nat) (v : Value) : He s w (w'.setCell ⟨w.heap.size + 1 + 1, o, none⟩ v) st (a.setIfInBounds o v) :=
  ⟨h.rd.set_other (by omega) _ _, blk_set h.lo _ _, blk_set_other h.re (by omega) _ _, h.be.setCell (by show _ ≤ w.heap.size + 1 + 1; omega) _⟩
theorem He.init (s : ByteArray) (w : World) : He s w (((w.alloc (.cells #[.int .i64 0, .int .i64 0, .int .i64 0, .slice none 0 0, .int .i64 0] 49)).alloc (.cells #[.string s, .int .i64 0, .bool false] 108)).alloc (.cells #[.int .i64 0, .int .i64 0, .int .i64 0, .slice none 0 0, .int .i64 0] 49)) ⟨0, false⟩ #[.int .i64 0, .int .i64 0, .int .i64 0, .slice none 0 0, .int .i64 0] := by
  have g1 := (Below.refl w.heap.size w).alloc (Nat.le_refl _) (.cells #[.int .i64 0, .int .i64 0, .int .i64 0, .slice none 0 0, .int .i64 0] 49)
  have b1 := blk_new w #[.int .i64 0, .int .i64 0, .int .i64 0, .slice none 0 0, .int .i64 0] 49
  have s1 := size_alloc_ w (.cells #[.int .i64 0, .int .i64 0, .int .i64 0, .slice none 0 0, .int .i64 0] 49)
  generalize w.alloc (.cells #[.int .i64 0, .int .i64 0, .int .i64 0, .slice none 0 0, .int .i64 0] 49) = w1 at *
  have g2 := g1.alloc (by omega) (.cells #[.string s, .int .i64 0, .bool false] 108)
  have b2 := blk_new w1 #[.string s, .int .i64 0, .bool false] 108
  have s2 := size_alloc_ w1 (.cells #[.string s, .int .i64 0, .bool false] 108)
  have b12 := blk_kept b1 (grown_alloc w1 (.cells #[.string s, .int .i64 0, .bool false] 108) none) (by simp)
  generalize w1.alloc (.cells #[.string s, .int .i64 0, .bool false] 108) = w2 at *
  have g3 := g2.alloc (by omega) (.cells #[.int .i64 0, .int .i64 0, .int .i64 0, .slice none 0 0, .int .i64 0] 49)
  have b3 := blk_new w2 #[.int .i64 0, .int .i64 0, .int .i64 0, .slice none 0 0, .int .i64 0] 49
  have b23 := blk_kept b2 (grown_alloc w2 (.cells #[.int .i64 0, .int .i64 0, .int .i64 0, .slice none 0 0, .int .i64 0] 49) none) (by simp)
  have b13 := blk_kept b12 (grown_alloc w2 (.cells #[.int .i64 0, .int .i64 0, .int .i64 0, .slice none 0 0, .int .i64 0] 49) none) (by simp)
  rw [s2, s1] at b3
  rw [s1] at b23
  exact ⟨b23, b3, b13, g3⟩

/-- The same with a step under way in block xb. -/
structure In (s : ByteArray) (w : World) (xb : Nat) (w' : World) (st : Hx.St) (a xa : Array Value) (v : Value) (l : List Hx.Lst) : Prop where
  he : He s w w' st a
  xx : w'.heap[xb]? = some (.cells xa 53 (0, 0))
  ow : w'.ownsRow (w.heap.size + 3) 53 10 v l.length (lstsCells l)
  ap : v.ownBlock ≠ some xb
  ge : w.heap.size + 3 ≤ xb

theorem In.call {s w xb w' w'' st st' a xa v l} (h : In s w xb w' st a xa v l) (hr : Rd 108 s (w.heap.size + 1) st' w'') (hg : w'.grownBy w'' (some (w.heap.size + 1))) : In s w xb w'' st' a xa v l :=
  ⟨h.he.call hr hg, blk_kept h.xx hg (by have := h.ge; simp; omega), h.ow.kept hg (own_ne h.ow (by omega)), h.ap, h.ge⟩
theorem In.setx {s w xb w' st a xa v l} (h : In s w xb w' st a xa v l) (o : Nat) (u : Value) : In s w xb (w'.setCell ⟨xb, o, none⟩ u) st a (xa.setIfInBounds o u) v l :=
  ⟨h.he.own (grown_set w' xb o u) (fun k e => by have := h.ge; simp at e; omega), blk_set h.xx _ _, h.ow.kept (grown_set w' xb o u) (Or.inr h.ap), h.ap, h.ge⟩
theorem In.setp {s w xb w' st a xa v l} (h : In s w xb w' st a xa v l) (o : Nat) (u : Value) : In s w xb (w'.setCell ⟨w.heap.size + 1 + 1, o, none⟩ u) st (a.setIfInBounds o u) xa v l :=
  ⟨h.he.store o u, blk_set_other h.xx (by have := h.ge; omega) _ _, h.ow.kept (grown_set w' _ o u) (own_ne h.ow (by omega)), h.ap, h.ge⟩
theorem In.alloc {s w xb w' st a xa v l} (h : In s w xb w' st a xa v l) (o : Obj) : In s w xb (w'.alloc o) st a xa v l :=
  ⟨h.he.own (grown_alloc w' o none) (by simp), blk_kept h.xx (grown_alloc w' o none) (by simp), h.ow.alloc o, h.ap, h.ge⟩
theorem In.app {s w xb w' w'' st a xa v v' l y} (h : In s w xb w' st a xa v l) (ho : w''.ownsRow (w.heap.size + 3) 53 10 v' (l.length + 1) (lstsCells l ++ lstCells y)) (hg : w'.grownBy w'' v.ownBlock)
    (hv : ∀ k, v'.ownBlock = some k → v.ownBlock = some k ∨ w'.heap.size ≤ k) : In s w xb w'' st a xa v' (l ++ [y]) := by
  refine ⟨h.he.own hg (fun k e => (h.ow.lt k e).1), blk_kept h.xx hg (fun e => h.ap e.symm), ?_, fun e => ?_, h.ge⟩
  · rw [lstsCells_snoc, List.length_append]; exact ho
  · rcases hv xb e with h1 | h1
    · exact h.ap h1
    · have := lt_of_block h.xx; omega

theorem arr10 (a0 a1 a2 a3 a4 a5 a6 a7 a8 a9 b0 b1 b2 b3 b4 b5 b6 b7 b8 b9 : Value) : ((((((((((#[a0, a1, a2, a3, a4, a5, a6, a7, a8, a9].setIfInBounds 0 b0).setIfInBounds 1 b1).setIfInBounds 2 b2).setIfInBounds 3 b3).setIfInBounds 4 b4).setIfInBounds 5 b5).setIfInBounds 6 b6).setIfInBounds 7 b7).setIfInBounds 8 b8).setIfInBounds 9 b9) = #[b0, b1, b2, b3, b4, b5, b6, b7, b8, b9] := by simp
theorem In.set10 {s w xb w' st a v l} {a0 a1 a2 a3 a4 a5 a6 a7 a8 a9 : Value} (h : In s w xb w' st a #[a0, a1, a2, a3, a4, a5, a6, a7, a8, a9] v l) (b0 b1 b2 b3 b4 b5 b6 b7 b8 b9 : Value) :
    In s w xb ((((((((((w'.setCell ⟨xb, 0, none⟩ b0).setCell ⟨xb, 1, none⟩ b1).setCell ⟨xb, 2, none⟩ b2).setCell ⟨xb, 3, none⟩ b3).setCell ⟨xb, 4, none⟩ b4).setCell ⟨xb, 5, none⟩ b5).setCell ⟨xb, 6, none⟩ b6).setCell ⟨xb, 7, none⟩ b7).setCell ⟨xb, 8, none⟩ b8).setCell ⟨xb, 9, none⟩ b9) st a #[b0, b1, b2, b3, b4, b5, b6, b7, b8, b9] v l := by
  have h1 := ((((((((((h.setx 0 b0).setx 1 b1).setx 2 b2).setx 3 b3).setx 4 b4).setx 5 b5).setx 6 b6).setx 7 b7).setx 8 b8).setx 9 b9)
  rw [arr10] at h1
  exact h1

def mO (s : ByteArray) (st : Hx.St) (on : Bool) : Nat := if st.bad = false ∧ on = true then s.size - st.pos + 1 else 0

/-- What is still to be read, at the head of the loop over plates. -/
structure OutOK (s : ByteArray) (st : Hx.St) (on : Bool) (ps : List (List Hx.Stp)) : Prop where
  bad : st.bad = true → (Hx.protF s).1 = st
  go : st.bad = false → on = true → Hx.platesF s st ps = Hx.protF s
  fin : st.bad = false → on = false → (st, ps) = Hx.protF s

/-- What is still to be read, at the head of the loop over a plate's steps. -/
structure InnOK (s : ByteArray) (n : Nat) (st0 st : Hx.St) (on : Bool) (acc : List Hx.Stp) (rest : Bool) (mn mx : Nat) : Prop where
  bad : st.bad = true → (Hx.plateF s n st0).1 = st
  go : st.bad = false → on = true → Hx.afterF s (Hx.boundsF s st).2 (acc ++ [⟨(Hx.boundsF s st).1.lo, (Hx.boundsF s st).1.hi, rest, mn, mx⟩]) = Hx.plateF s n st0
  fin : st.bad = false → on = false → (st, acc) = Hx.plateF s n st0

theorem out_more {s : ByteArray} {pos pos2 : Nat} {ps : List (List Hx.Stp)} {acc : List Hx.Stp} (hgo : Hx.platesF s ⟨pos, false⟩ ps = Hx.protF s) (hpf : ((⟨pos2, false⟩ : Hx.St), acc) = Hx.plateF s ps.length ⟨pos, false⟩) (h : pos2 < s.size) :
    OutOK s ⟨pos2, false⟩ true (ps ++ [acc]) := by
  refine ⟨fun h => (by cases h), fun _ _ => ?_, fun _ h => (by cases h)⟩
  have e := Hx.platesF_more (s := s) (st := ⟨pos, false⟩) (acc := ps) (by rw [← hpf]) (by rw [← hpf]; exact h)
  rw [← hgo, e, ← hpf]
theorem out_end {s : ByteArray} {pos pos2 : Nat} {ps : List (List Hx.Stp)} {acc : List Hx.Stp} (hgo : Hx.platesF s ⟨pos, false⟩ ps = Hx.protF s) (hpf : ((⟨pos2, false⟩ : Hx.St), acc) = Hx.plateF s ps.length ⟨pos, false⟩) (h : s.size ≤ pos2) :
    OutOK s ⟨pos2, false⟩ false (ps ++ [acc]) := by
  refine ⟨fun h => (by cases h), fun _ h => (by cases h), fun _ _ => ?_⟩
  have e := Hx.platesF_end (s := s) (st := ⟨pos, false⟩) (acc := ps) (by rw [← hpf]) (by rw [← hpf]; exact h)
  rw [← hgo, e, ← hpf]
theorem out_bad {s : ByteArray} {pos pos2 : Nat} {ps qs : List (List Hx.Stp)} {b : Bool} (hgo : Hx.platesF s ⟨pos, false⟩ ps = Hx.protF s) (hpf : (Hx.plateF s ps.length ⟨pos, false⟩).1 = ⟨pos2, true⟩) :
    OutOK s ⟨pos2, true⟩ b qs := by
  refine ⟨fun _ => ?_, fun h => (by cases h), fun h => (by cases h)⟩
  have e := Hx.platesF_bad (s := s) (st := ⟨pos, false⟩) (acc := ps) (by rw [hpf])
  rw [← hgo, e, hpf]
theorem six_of {s : ByteArray} {n pos pos2 : Nat} {acc : List Hx.Stp} (hpf : ((⟨pos2, false⟩ : Hx.St), acc) = Hx.plateF s n ⟨pos, false⟩) : pos + 6 ≤ pos2 := by
  have h := (Hx.plateF_six (s := s) (n := n) (st := ⟨pos, false⟩) (by rw [← hpf])).2
  rw [← hpf] at h
  exact h
theorem lab_len (i : Nat) (p : List Hx.Stp) : (Hx.lab i p).length = p.length := by simp [Hx.lab]
theorem tot_snoc {ps : List (List Hx.Stp)} {acc : List Hx.Stp} {p : Nat} (h : (Hx.labs ps).length + acc.length ≤ p) : (Hx.labs (ps ++ [acc])).length ≤ p := by
  rw [Hx.labs_snoc, List.length_append, lab_len]; exact h
theorem mO_lt {s : ByteArray} {pos pos2 : Nat} (h : pos < pos2) (h2 : pos2 ≤ s.size) : mO s ⟨pos2, false⟩ true < mO s ⟨pos, false⟩ true := by simp [mO]; omega
theorem mO_zero {s : ByteArray} {pos : Nat} {st : Hx.St} {on : Bool} (h : st.bad = true ∨ on = false) : mO s st on < mO s ⟨pos, false⟩ true := by
  have : ¬ (st.bad = false ∧ on = true) := by rcases h with h | h <;> simp [h]
  simp [mO, this]
theorem mO_any {s : ByteArray} {pos : Nat} {st : Hx.St} {on : Bool} (h : st.bad = false → on = true → pos < st.pos) (h2 : st.pos ≤ s.size) : mO s st on < mO s ⟨pos, false⟩ true := by
  by_cases g : st.bad = false ∧ on = true
  · have := h g.1 g.2
    simp [mO, g]; omega
  · simp [mO, g]
theorem inn_start (s : ByteArray) (n : Nat) (st : Hx.St) : InnOK s n st (Hx.openF s n st) true [] false 0 0 := by
  refine ⟨fun hb => ?_, fun _ _ => rfl, fun _ h => (by cases h)⟩
  unfold Hx.plateF
  rw [Hx.boundsF_bad hb, Hx.afterF_bad hb]
theorem inn_comma {s : ByteArray} {n p : Nat} {st0 : Hx.St} {acc : List Hx.Stp} (hgo : Hx.afterF s ⟨p, false⟩ acc = Hx.plateF s n st0) (h : Hx.byteAt s p = 44) : InnOK s n st0 ⟨p + 1, false⟩ true acc false 0 0 :=
  ⟨fun h => (by cases h), fun _ _ => (Hx.afterF_comma (st := ⟨p, false⟩) rfl h).symm.trans hgo, fun _ h => (by cases h)⟩
theorem inn_rest {s : ByteArray} {n p : Nat} {st0 : Hx.St} {acc : List Hx.Stp} (hgo : Hx.afterF s ⟨p, false⟩ acc = Hx.plateF s n st0) (h : Hx.byteAt s p = 126) :
    InnOK s n st0 (Hx.takeF s 126 (Hx.boundsF s ⟨p + 1, false⟩).2) true acc true (Hx.boundsF s ⟨p + 1, false⟩).1.lo (Hx.boundsF s ⟨p + 1, false⟩).1.hi := by
  have e := (Hx.afterF_rest (s := s) (st := ⟨p, false⟩) (acc := acc) rfl h).symm.trans hgo
  have er : Hx.restF s ⟨p, false⟩ = (⟨(Hx.boundsF s (Hx.takeF s 126 (Hx.boundsF s ⟨p + 1, false⟩).2)).1.lo, (Hx.boundsF s (Hx.takeF s 126 (Hx.boundsF s ⟨p + 1, false⟩).2)).1.hi, true, (Hx.boundsF s ⟨p + 1, false⟩).1.lo, (Hx.boundsF s ⟨p + 1, false⟩).1.hi⟩, (Hx.boundsF s (Hx.takeF s 126 (Hx.boundsF s ⟨p + 1, false⟩).2)).2) := by
    unfold Hx.restF
    rw [Hx.takeF_yes (st := ⟨p, false⟩) rfl h]
  rw [er] at e
  refine ⟨fun hb => ?_, fun _ _ => e, fun _ h => (by cases h)⟩
  rw [Hx.boundsF_bad hb, Hx.afterF_bad hb] at e
  rw [← e]
theorem inn_stop {s : ByteArray} {n : Nat} {st0 st3 : Hx.St} {acc : List Hx.Stp} (hgo : Hx.afterF s st3 acc = Hx.plateF s n st0) (h : st3.bad = true ∨ (Hx.byteAt s st3.pos ≠ 44 ∧ Hx.byteAt s st3.pos ≠ 126)) : InnOK s n st0 st3 false acc false 0 0 := by
  have e : Hx.afterF s st3 acc = (st3, acc) := by
    rcases h with h | ⟨h1, h2⟩
    · exact Hx.afterF_bad h
    · exact Hx.afterF_stop h1 h2
  rw [e] at hgo
  exact ⟨fun _ => by rw [← hgo], fun _ h => (by cases h), fun _ _ => hgo⟩
theorem start_tot {s : ByteArray} {n pos t : Nat} (h : t ≤ pos) : t + ([] : List Hx.Stp).length ≤ (Hx.openF s n ⟨pos, false⟩).pos := by
  have h1 := Hx.openF_ge s n ⟨pos, false⟩
  have h2 := Hx.takeF_ge s 59 ⟨pos, false⟩
  simp only [List.length_nil] at *; omega
theorem start_tot2 {s : ByteArray} {n pos t : Nat} (h : t ≤ pos) (hg : (Hx.openF s n ⟨pos, false⟩).bad = false) : t + ([] : List Hx.Stp).length + 1 ≤ (Hx.openF s n ⟨pos, false⟩).pos := by
  have h1 := (Hx.openF_good hg).2
  simp only [List.length_nil] at *; omega

end Go.Proofs.YtppcnlkhdgmaiabGreatDoor
