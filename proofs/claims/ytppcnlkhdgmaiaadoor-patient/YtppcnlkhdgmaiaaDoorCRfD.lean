/- Laws for the document's reading of a whole protocol: an append that tells where the new slice lies; the steps with their plates and numbers. What the document's Decimal and Name do: the digits of a number, a step's name. What the document's helpers for orders do: with (a list with one number more, copied). What lies in memory while the document reads a protocol, and what is still to be read. -/
import Derived.Test.YtppcnlkhdgmaiaaDoorCRfB
import Derived.Test.YtppcnlkhdgmaiaaDoorCPg
namespace Go.Proofs.YtppcnlkhdgmaiaaDoor
open Go.RowKit

/-- append onto a slice that the call itself made: the new slice lies where the old one lay, or in a new block. -/
theorem run_append_own2 {P : Program} (w : World) (base : Nat) (t ty e : TypeId) (i : TypeInfo) (z : Value) (size bytes : Nat) (ht : P.underlying t = some (.slice e)) (hi : P.info? e = some i) (hz : i.zero = some z)
    (hsize : i.size = size) (hby : i.bytes = bytes) (hzs : z.cells.size = size) (hsz : 0 < size)
    (v : Value) (n : Nat) (xs : List Value) (hown : w.ownsRow base e size v n xs)
    (a : Addr) (m c : Nat) (news : List Value) (hl : news.length = m * size) (hnews : ∀ j u, news[j]? = some u → w.cell? (a.add j) = some u) (h1 : ∀ u ∈ news, u.oneCell' = true)
    (h63 : n + m ≤ maxLen) (hbytes : (n + m) * bytes ≤ 140737488355328) (hbase : base ≤ w.heap.size) :
    ∃ v' w', (Builtin.append_ #[t, t] ty #[v, .slice (some a) m c]).run P w = .ok v' w' ∧ w'.ownsRow base e size v' (n + m) (xs ++ news) ∧ w.grownBy w' v.ownBlock ∧
      (∀ k, v'.ownBlock = some k → v.ownBlock = some k ∨ w.heap.size ≤ k) := by
  rcases hown.2 with ⟨rfl, rfl⟩ | ⟨g, cap, cur, rfl, hbg, hh, hrest⟩
  · obtain rfl : xs = [] := List.eq_nil_of_length_eq_zero (by simpa using hown.1)
    obtain ⟨v', w', hr, h2, h3, _⟩ := run_append_own (P := P) w w.heap.size t ty e i z size bytes ht hi hz hsize hby hzs hsz (.slice none 0 0) 0 [] (World.ownsRow_nil w _ e size) a m c news hl hnews h1 h63 hbytes (Nat.le_refl _)
    exact ⟨v', w', hr, own_mono h2 hbase, h3, fun k hk => Or.inr (h2.lt k hk).1⟩
  · by_cases hroom : n + m ≤ cap
    · obtain ⟨w', hr, h2, h3⟩ := run_append_fits (P := P) w base t ty e i size ht hi hsize g n cap xs hown a m c news hl hnews h1 hroom
      exact ⟨_, w', hr, h2, h3, fun k hk => Or.inl hk⟩
    · obtain ⟨v', w', hr, h2, h3⟩ := run_append_arg_grows (P := P) w t ty e i z size bytes ht hi hz hsize hby hzs hsz ⟨g, 0, none⟩ n cap xs hown.1 (hown.cells rfl) a m c news hl hnews (by omega) h63 hbytes
      exact ⟨v', w', hr, own_mono h2 hbase, ⟨h3.os, h3.tape, h3.output, h3.size, fun k hk _ => h3.block k hk (by simp)⟩, fun k hk => Or.inr (h2.lt k hk).1⟩

theorem wpList_append_own2 {P : Program} (w : World) {ops : Array Oper} {rest : List Oper} {o : Oper} {a : Act} {Q : Exit → Act → World → Prop} (hgd : o.guard = none) (s x : Operand) (t : TypeId)
    (ho : o.op = .call { callee := .builtin .append, args := #[s, x], argTypes := #[t, t] })
    (base : Nat) (e : TypeId) (i : TypeInfo) (z : Value) (size bytes : Nat) (ht : P.underlying t = some (.slice e)) (hi : P.info? e = some i) (hz : i.zero = some z)
    (hsize : i.size = size) (hby : i.bytes = bytes) (hzs : z.cells.size = size) (hsz : 0 < size)
    (v : Value) (n : Nat) (xs : List Value) (hs : a.eval s = v) (hown : w.ownsRow base e size v n xs)
    (ad : Addr) (m c : Nat) (news : List Value) (hx : a.eval x = .slice (some ad) m c) (hl : news.length = m * size) (hnews : ∀ j u, news[j]? = some u → w.cell? (ad.add j) = some u) (h1 : ∀ u ∈ news, u.oneCell' = true)
    (h63 : n + m ≤ maxLen) (hbytes : (n + m) * bytes ≤ 140737488355328) (hbase : base ≤ w.heap.size)
    (h : ∀ v' w', w'.ownsRow base e size v' (n + m) (xs ++ news) → w.grownBy w' v.ownBlock → (∀ k, v'.ownBlock = some k → v.ownBlock = some k ∨ w.heap.size ≤ k) → wpList P ops Q rest (a.put o.dst v') w') : wpList P ops Q (o :: rest) a w := by
  refine wpList_plain hgd fun _ hK => ?_
  obtain ⟨v', w', hr, h2, h3, h4⟩ := run_append_own2 (P := P) w base t o.type e i z size bytes ht hi hz hsize hby hzs hsz v n xs hown ad m c news hl hnews h1 h63 hbytes hbase
  unfold Oper.wp execOp
  simp only [ho, resolve, invoke, builtin, Sem.run_bind, Sem.run_pure, Result.andThen_ok, List.map_toArray, List.map_cons, List.map_nil, hs, hx, hr]
  exact hK _ _ (h v' w' h2 h3 h4)

namespace Hx
/-- A step with its plate and its number. -/
structure Lst where
  pl : Nat
  no : Nat
  x : Stp

def lab (i : Nat) (p : List Stp) : List Lst := p.mapIdx fun j x => ⟨i, j, x⟩
def labs (ps : List (List Stp)) : List Lst := (ps.mapIdx lab).flatten
theorem lab_nil (i : Nat) : lab i [] = [] := rfl
theorem labs_nil : labs [] = [] := rfl
theorem lab_snoc (i : Nat) (p : List Stp) (x : Stp) : lab i (p ++ [x]) = lab i p ++ [⟨i, p.length, x⟩] := by simp [lab, List.mapIdx_append]
theorem labs_snoc (ps : List (List Stp)) (p : List Stp) : labs (ps ++ [p]) = labs ps ++ lab ps.length p := by simp [labs, List.mapIdx_append]
theorem lab_x (i : Nat) (p : List Stp) : (lab i p).map (·.x) = p := by
  apply List.ext_getElem?
  intro n
  simp [lab, List.getElem?_mapIdx]
  cases p[n]? <;> rfl
theorem labs_append (ps qs : List (List Stp)) : (labs (ps ++ qs)).map (·.x) = (labs ps).map (·.x) ++ qs.flatten := by
  induction qs generalizing ps with
  | nil => simp
  | cons q r ih =>
    have e : ps ++ q :: r = (ps ++ [q]) ++ r := by simp
    rw [e, ih, labs_snoc, List.map_append, lab_x, List.flatten_cons, List.append_assoc]
theorem labs_x (ps : List (List Stp)) : (labs ps).map (·.x) = ps.flatten := by
  have := labs_append [] ps
  simpa [labs_nil] using this
theorem labs_len (ps : List (List Stp)) : (labs ps).length = ps.flatten.length := by rw [← labs_x, List.length_map]

theorem numF_good {s : ByteArray} {m : Nat} {st : St} (hm : 1 ≤ m) (h : (numF s m st).2.bad = false) : st.bad = false ∧ st.pos + 1 ≤ (numF s m st).2.pos := by
  obtain ⟨pos, bad⟩ := st
  cases bad
  · refine ⟨rfl, ?_⟩
    by_cases h0 : byteAt s pos = 48
    · rw [numF_zero rfl h0]; exact Nat.le_refl _
    · by_cases h1 : 49 ≤ byteAt s pos ∧ byteAt s pos ≤ 57
      · rw [numF_dig rfl h1]
        obtain ⟨k, rfl⟩ : ∃ k, m = k + 1 := ⟨m - 1, by omega⟩
        show pos + 1 ≤ (digF s (k + 1) pos 0).2
        rw [digF_step (by omega)]
        exact digF_ge s k (pos + 1) _
      · rw [numF_no rfl (by simp only; omega)] at h
        cases h
  · rw [numF_bad rfl] at h; cases h
theorem boundsF_good {s : ByteArray} {st : St} (h : (boundsF s st).2.bad = false) : st.bad = false ∧ st.pos + 3 ≤ (boundsF s st).2.pos := by
  have h3 := numF_good (s := s) (m := 3) (by omega) h
  obtain ⟨b2, _, e2⟩ := takeF_good h3.1
  have h1 := numF_good (s := s) (m := 3) (by omega) b2
  refine ⟨h1.1, ?_⟩
  have h4 := h3.2
  rw [e2] at h4
  have h5 := h1.2
  show st.pos + 3 ≤ (numF s 3 (takeF s 45 (numF s 3 st).2)).2.pos
  rw [e2]
  simp only at h4
  omega
theorem openF_good {s : ByteArray} {n : Nat} {st : St} (h : (openF s n st).bad = false) : st.bad = false ∧ st.pos + 3 ≤ (openF s n st).pos := by
  obtain ⟨b2, _, e2⟩ := takeF_good h
  have e3 : openF s n st = ⟨(letterF s n (takeF s 59 st)).pos + 1, false⟩ := e2
  by_cases h26 : n < 26
  · have el : letterF s n (takeF s 59 st) = takeF s (97 + n) (takeF s 59 st) := by rw [letterF, if_pos h26]
    rw [el] at b2 e3
    obtain ⟨b1, _, e1⟩ := takeF_good b2
    obtain ⟨b0, _, e0⟩ := takeF_good b1
    refine ⟨b0, ?_⟩
    rw [e3, e1, e0]
    show st.pos + 3 ≤ st.pos + 1 + 1 + 1
    omega
  · rw [letterF, if_neg h26] at b2
    cases b2
theorem plateF_six {s : ByteArray} {n : Nat} {st : St} (h : (plateF s n st).1.bad = false) : st.bad = false ∧ st.pos + 6 ≤ (plateF s n st).1.pos := by
  have hb : (boundsF s (openF s n st)).2.bad = false := by
    cases hb : (boundsF s (openF s n st)).2.bad
    · rfl
    · unfold plateF at h; rw [afterF_bad hb] at h; simp only at h; rw [hb] at h; cases h
  have h1 := boundsF_good hb
  have h2 := openF_good h1.1
  have h3 : (boundsF s (openF s n st)).2.pos ≤ (plateF s n st).1.pos := afterF_ge s _ _
  exact ⟨h2.1, by omega⟩
end Hx

/-- A step of the document's plan: ten cells. -/
def lstCells (y : Hx.Lst) : List Value := [.int .i64 (y.pl : Int), .int .i64 (y.no : Int), .int .i64 (y.x.lo : Int), .int .i64 (y.x.hi : Int), .bool y.x.rest, .int .i64 (y.x.mn : Int), .int .i64 (y.x.mx : Int), .int .i64 0, .int .i64 0, .int .i64 0]
def lstsCells (l : List Hx.Lst) : List Value := l.flatMap lstCells
theorem lstsCells_snoc (l : List Hx.Lst) (y : Hx.Lst) : lstsCells (l ++ [y]) = lstsCells l ++ lstCells y := by simp [lstsCells]
theorem lstCells_one (y : Hx.Lst) : ∀ u ∈ lstCells y, u.oneCell' = true := by
  intro u hu
  simp [lstCells] at hu
  rcases hu with rfl | rfl | rfl | rfl | rfl | rfl | rfl | rfl <;> rfl

end Go.Proofs.YtppcnlkhdgmaiaaDoor
namespace Go.Proofs.YtppcnlkhdgmaiaaDoor
open Go.RowKit

namespace Hx
/-- The digits of a number. -/
def decF (n : Nat) : List UInt8 := if n < 10 then [UInt8.ofNat (48 + n)] else decF (n / 10) ++ [UInt8.ofNat (48 + n % 10)]
termination_by n
decreasing_by omega
theorem decF_one {n : Nat} (h : n < 10) : decF n = [UInt8.ofNat (48 + n)] := by rw [decF, if_pos h]
theorem decF_len (n : Nat) : (decF n).length ≤ n + 1 := by
  induction n using decF.induct with
  | case1 n h => rw [decF, if_pos h]; simp
  | case2 n h ih =>
    rw [decF, if_neg h, List.length_append]
    show _ + 1 ≤ _
    omega
theorem decF_more {n : Nat} (h : ¬ n < 10) : decF n = decF (n / 10) ++ [UInt8.ofNat (48 + n % 10)] := by rw [decF, if_neg h]
end Hx

theorem digit_ext : ∀ d, d < 10 → (⟨#[48, 49, 50, 51, 52, 53, 54, 55, 56, 57]⟩ : ByteArray).extract d (d + 1) = ⟨#[UInt8.ofNat (48 + d)]⟩ := by decide
theorem letter_ext : ∀ d, d < 26 → (⟨#[97, 98, 99, 100, 101, 102, 103, 104, 105, 106, 107, 108, 109, 110, 111, 112, 113, 114, 115, 116, 117, 118, 119, 120, 121, 122]⟩ : ByteArray).extract d (d + 1) = ⟨#[UInt8.ofNat (97 + d)]⟩ := by decide
theorem bytes_app (a b : List UInt8) : (⟨a.toArray⟩ : ByteArray) ++ ⟨b.toArray⟩ = ⟨(a ++ b).toArray⟩ := by
  apply ByteArray.ext
  rw [ByteArray.data_append]
  simp
theorem digit_app (d : Nat) (hd : d < 10) (l : List UInt8) : (⟨#[48, 49, 50, 51, 52, 53, 54, 55, 56, 57]⟩ : ByteArray).extract d (d + 1) ++ ⟨l.toArray⟩ = ⟨([UInt8.ofNat (48 + d)] ++ l).toArray⟩ := by
  rw [digit_ext d hd]; exact bytes_app [UInt8.ofNat (48 + d)] l
theorem letter_app (d : Nat) (hd : d < 26) (l : List UInt8) : (⟨#[97, 98, 99, 100, 101, 102, 103, 104, 105, 106, 107, 108, 109, 110, 111, 112, 113, 114, 115, 116, 117, 118, 119, 120, 121, 122]⟩ : ByteArray).extract d (d + 1) ++ ⟨l.toArray⟩ = ⟨([UInt8.ofNat (97 + d)] ++ l).toArray⟩ := by
  rw [letter_ext d hd]; exact bytes_app [UInt8.ofNat (97 + d)] l
theorem ret_str {a b : ByteArray} (h : a = b) : Ending.returned (.string a) = .returned (.string b) := by rw [h]

/-- A step's name. -/
def nameB (pl no : Nat) : List UInt8 := [UInt8.ofNat (97 + pl)] ++ Hx.decF no

end Go.Proofs.YtppcnlkhdgmaiaaDoor
namespace Go.Proofs.YtppcnlkhdgmaiaaDoor
open Go.RowKit

def ints (xs : List Int) : List Value := xs.map (Value.int .i64)
theorem ints_snoc (xs : List Int) (n : Int) : ints (xs ++ [n]) = ints xs ++ [.int .i64 n] := by simp [ints]
theorem ints_len (xs : List Int) : (ints xs).length = xs.length := by simp [ints]
theorem ints_at (xs : List Int) (k : Nat) (x : Int) (h : xs[k]? = some x) : (ints xs)[k]? = some (.int .i64 x) := by simp [ints, h]
theorem ints_take (xs : List Int) (k : Nat) (x : Int) (h : xs[k]? = some x) : xs.take (k + 1) = xs.take k ++ [x] := by rw [List.take_add_one, h]; rfl

theorem Tryd.info3 : (Tryd.prog.info? 3).map (fun i => (i.zero, i.size, i.bytes)) = some (some (.int .i64 0), 1, 8) := by kernel_rfl

theorem one_news (w : World) (x : Value) (T : TypeId) : ∀ (j : Nat) (u : Value), [x][j]? = some u → (w.alloc (.cells #[x] T)).cell? ((⟨w.heap.size, 0, none⟩ : Addr).add j) = some u := news_new w [x] T

end Go.Proofs.YtppcnlkhdgmaiaaDoor
namespace Go.Proofs.YtppcnlkhdgmaiaaDoor
open Go.RowKit

theorem arr10 (a0 a1 a2 a3 a4 a5 a6 a7 a8 a9 b0 b1 b2 b3 b4 b5 b6 b7 b8 b9 : Value) : ((((((((((#[a0, a1, a2, a3, a4, a5, a6, a7, a8, a9].setIfInBounds 0 b0).setIfInBounds 1 b1).setIfInBounds 2 b2).setIfInBounds 3 b3).setIfInBounds 4 b4).setIfInBounds 5 b5).setIfInBounds 6 b6).setIfInBounds 7 b7).setIfInBounds 8 b8).setIfInBounds 9 b9) = #[b0, b1, b2, b3, b4, b5, b6, b7, b8, b9] := by simp
def mO (s : ByteArray) (st : Hx.St) (on : Bool) : Nat := if st.bad = false ∧ on = true then s.size - st.pos + 1 else 0

/-- What is still to be read, at the head of the loop over plates. -/
structure OutOK (s : ByteArray) (st : Hx.St) (on : Bool) (ps : List (List Hx.Stp)) : Prop where
  bad : st.bad = true → (Hx.protF s).1 = st
  go : st.bad = false → on = true → Hx.platesF s st ps = Hx.protF s
  fin : st.bad = false → on = false → (st, ps) = Hx.protF s

/-- What is still to be read, at the head of the loop over a plate's steps. -/
structure InnOK (s : ByteArray) (n : Nat) (st0 st : Hx.St) (on : Bool) (acc : List Hx.Stp) (rest : Bool) (mn mx : Nat) : Prop where
  bad : st.bad = true → (Hx.plateF s n st0).1 = st
  go : st.bad = false → on = true → Hx.afterF s (Hx.boundsF s st).2 (acc ++ [⟨(Hx.boundsF s st).1.lo, (Hx.boundsF s st).1.hi, rest, mn, mx⟩]) = Hx.plateF s n st0
  fin : st.bad = false → on = false → (st, acc) = Hx.plateF s n st0

theorem out_more {s : ByteArray} {pos pos2 : Nat} {ps : List (List Hx.Stp)} {acc : List Hx.Stp} (hgo : Hx.platesF s ⟨pos, false⟩ ps = Hx.protF s) (hpf : ((⟨pos2, false⟩ : Hx.St), acc) = Hx.plateF s ps.length ⟨pos, false⟩) (h : pos2 < s.size) :
    OutOK s ⟨pos2, false⟩ true (ps ++ [acc]) := by
  refine ⟨fun h => (by cases h), fun _ _ => ?_, fun _ h => (by cases h)⟩
  have e := Hx.platesF_more (s := s) (st := ⟨pos, false⟩) (acc := ps) (by rw [← hpf]) (by rw [← hpf]; exact h)
  rw [← hgo, e, ← hpf]
theorem out_end {s : ByteArray} {pos pos2 : Nat} {ps : List (List Hx.Stp)} {acc : List Hx.Stp} (hgo : Hx.platesF s ⟨pos, false⟩ ps = Hx.protF s) (hpf : ((⟨pos2, false⟩ : Hx.St), acc) = Hx.plateF s ps.length ⟨pos, false⟩) (h : s.size ≤ pos2) :
    OutOK s ⟨pos2, false⟩ false (ps ++ [acc]) := by
  refine ⟨fun h => (by cases h), fun _ h => (by cases h), fun _ _ => ?_⟩
  have e := Hx.platesF_end (s := s) (st := ⟨pos, false⟩) (acc := ps) (by rw [← hpf]) (by rw [← hpf]; exact h)
  rw [← hgo, e, ← hpf]
theorem out_bad {s : ByteArray} {pos pos2 : Nat} {ps qs : List (List Hx.Stp)} {b : Bool} (hgo : Hx.platesF s ⟨pos, false⟩ ps = Hx.protF s) (hpf : (Hx.plateF s ps.length ⟨pos, false⟩).1 = ⟨pos2, true⟩) :
    OutOK s ⟨pos2, true⟩ b qs := by
  refine ⟨fun _ => ?_, fun h => (by cases h), fun h => (by cases h)⟩
  have e := Hx.platesF_bad (s := s) (st := ⟨pos, false⟩) (acc := ps) (by rw [hpf])
  rw [← hgo, e, hpf]
theorem six_of {s : ByteArray} {n pos pos2 : Nat} {acc : List Hx.Stp} (hpf : ((⟨pos2, false⟩ : Hx.St), acc) = Hx.plateF s n ⟨pos, false⟩) : pos + 6 ≤ pos2 := by
  have h := (Hx.plateF_six (s := s) (n := n) (st := ⟨pos, false⟩) (by rw [← hpf])).2
  rw [← hpf] at h
  exact h
theorem lab_len (i : Nat) (p : List Hx.Stp) : (Hx.lab i p).length = p.length := by simp [Hx.lab]
theorem tot_snoc {ps : List (List Hx.Stp)} {acc : List Hx.Stp} {p : Nat} (h : (Hx.labs ps).length + acc.length ≤ p) : (Hx.labs (ps ++ [acc])).length ≤ p := by
  rw [Hx.labs_snoc, List.length_append, lab_len]; exact h
theorem mO_lt {s : ByteArray} {pos pos2 : Nat} (h : pos < pos2) (h2 : pos2 ≤ s.size) : mO s ⟨pos2, false⟩ true < mO s ⟨pos, false⟩ true := by simp [mO]; omega
theorem mO_zero {s : ByteArray} {pos : Nat} {st : Hx.St} {on : Bool} (h : st.bad = true ∨ on = false) : mO s st on < mO s ⟨pos, false⟩ true := by
  have : ¬ (st.bad = false ∧ on = true) := by rcases h with h | h <;> simp [h]
  simp [mO, this]
theorem mO_any {s : ByteArray} {pos : Nat} {st : Hx.St} {on : Bool} (h : st.bad = false → on = true → pos < st.pos) (h2 : st.pos ≤ s.size) : mO s st on < mO s ⟨pos, false⟩ true := by
  by_cases g : st.bad = false ∧ on = true
  · have := h g.1 g.2
    simp [mO, g]; omega
  · simp [mO, g]
theorem inn_start (s : ByteArray) (n : Nat) (st : Hx.St) : InnOK s n st (Hx.openF s n st) true [] false 0 0 := by
  refine ⟨fun hb => ?_, fun _ _ => rfl, fun _ h => (by cases h)⟩
  unfold Hx.plateF
  rw [Hx.boundsF_bad hb, Hx.afterF_bad hb]
theorem inn_comma {s : ByteArray} {n p : Nat} {st0 : Hx.St} {acc : List Hx.Stp} (hgo : Hx.afterF s ⟨p, false⟩ acc = Hx.plateF s n st0) (h : Hx.byteAt s p = 44) : InnOK s n st0 ⟨p + 1, false⟩ true acc false 0 0 :=
  ⟨fun h => (by cases h), fun _ _ => (Hx.afterF_comma (st := ⟨p, false⟩) rfl h).symm.trans hgo, fun _ h => (by cases h)⟩
theorem inn_rest {s : ByteArray} {n p : Nat} {st0 : Hx.St} {acc : List Hx.Stp} (hgo : Hx.afterF s ⟨p, false⟩ acc = Hx.plateF s n st0) (h : Hx.byteAt s p = 126) :
    InnOK s n st0 (Hx.takeF s 126 (Hx.boundsF s ⟨p + 1, false⟩).2) true acc true (Hx.boundsF s ⟨p + 1, false⟩).1.lo (Hx.boundsF s ⟨p + 1, false⟩).1.hi := by
  have e := (Hx.afterF_rest (s := s) (st := ⟨p, false⟩) (acc := acc) rfl h).symm.trans hgo
  have er : Hx.restF s ⟨p, false⟩ = (⟨(Hx.boundsF s (Hx.takeF s 126 (Hx.boundsF s ⟨p + 1, false⟩).2)).1.lo, (Hx.boundsF s (Hx.takeF s 126 (Hx.boundsF s ⟨p + 1, false⟩).2)).1.hi, true, (Hx.boundsF s ⟨p + 1, false⟩).1.lo, (Hx.boundsF s ⟨p + 1, false⟩).1.hi⟩, (Hx.boundsF s (Hx.takeF s 126 (Hx.boundsF s ⟨p + 1, false⟩).2)).2) := by
    unfold Hx.restF
    rw [Hx.takeF_yes (st := ⟨p, false⟩) rfl h]
  rw [er] at e
  refine ⟨fun hb => ?_, fun _ _ => e, fun _ h => (by cases h)⟩
  rw [Hx.boundsF_bad hb, Hx.afterF_bad hb] at e
  rw [← e]
theorem inn_stop {s : ByteArray} {n : Nat} {st0 st3 : Hx.St} {acc : List Hx.Stp} (hgo : Hx.afterF s st3 acc = Hx.plateF s n st0) (h : st3.bad = true ∨ (Hx.byteAt s st3.pos ≠ 44 ∧ Hx.byteAt s st3.pos ≠ 126)) : InnOK s n st0 st3 false acc false 0 0 := by
  have e : Hx.afterF s st3 acc = (st3, acc) := by
    rcases h with h | ⟨h1, h2⟩
    · exact Hx.afterF_bad h
    · exact Hx.afterF_stop h1 h2
  rw [e] at hgo
  exact ⟨fun _ => by rw [← hgo], fun _ h => (by cases h), fun _ _ => hgo⟩
theorem start_tot {s : ByteArray} {n pos t : Nat} (h : t ≤ pos) : t + ([] : List Hx.Stp).length ≤ (Hx.openF s n ⟨pos, false⟩).pos := by
  have h1 := Hx.openF_ge s n ⟨pos, false⟩
  have h2 := Hx.takeF_ge s 59 ⟨pos, false⟩
  simp only [List.length_nil] at *; omega
theorem start_tot2 {s : ByteArray} {n pos t : Nat} (h : t ≤ pos) (hg : (Hx.openF s n ⟨pos, false⟩).bad = false) : t + ([] : List Hx.Stp).length + 1 ≤ (Hx.openF s n ⟨pos, false⟩).pos := by
  have h1 := (Hx.openF_good hg).2
  simp only [List.length_nil] at *; omega

end Go.Proofs.YtppcnlkhdgmaiaaDoor
