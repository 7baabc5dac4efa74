/- Laws for the document's reading of a whole protocol: an append that tells where the new slice lies; the steps with their plates and numbers. What the document's Decimal and Name do: the digits of a number, a step's name. The plain mathematics of how the program reads a step of a table: it is how the document reads it. No program is named here. The plain mathematics of which table is right: what the program keeps (how many steps of each plate are done, where each plate stays) against the document's. No program is named here. The plain mathematics of how a table is scanned: where the program's reader finds a table, the scan finds the same. No program is named here. What a Scan's small calls do: is, must, name, number; over a Scan that lies in one block of memory. -/
import Derived.Test.YtppcnlkhdgmaiaaDoorCRfB
import Derived.Test.YtppcnlkhdgmaiaaDoorCPf
import Derived.Test.YtppcnlkhdgmaiaaDoorCRdD
import Derived.Deep.LoopGhost
import Derived.IntWalk
import Derived.Handy
namespace Go.Proofs.YtppcnlkhdgmaiaaDoor
open Go.RowKit

/-- append onto a slice that the call itself made: the new slice lies where the old one lay, or in a new block. -/
theorem run_append_own2 {P : Program} (w : World) (base : Nat) (t ty e : TypeId) (i : TypeInfo) (z : Value) (size bytes : Nat) (ht : P.underlying t = some (.slice e)) (hi : P.info? e = some i) (hz : i.zero = some z)
    (hsize : i.size = size) (hby : i.bytes = bytes) (hzs : z.cells.size = size) (hsz : 0 < size)
    (v : Value) (n : Nat) (xs : List Value) (hown : w.ownsRow base e size v n xs)
    (a : Addr) (m c : Nat) (news : List Value) (hl : news.length = m * size) (hnews : ∀ j u, news[j]? = some u → w.cell? (a.add j) = some u) (h1 : ∀ u ∈ news, u.oneCell' = true)
    (h63 : n + m ≤ maxLen) (hbytes : (n + m) * bytes ≤ 140737488355328) (hbase : base ≤ w.heap.size) :
    ∃ v' w', (Builtin.append_ #[t, t] ty #[v, .slice (some a) m c]).run P w = .ok v' w' ∧ w'.ownsRow base e size v' (n + m) (xs ++ news) ∧ w.grownBy w' v.ownBlock ∧
      (∀ k, v'.ownBlock = some k → v.ownBlock = some k ∨ w.heap.size ≤ k) := by
  rcases hown.2 with ⟨rfl, rfl⟩ | ⟨g, cap, cur, rfl, hbg, hh, hrest⟩
  · obtain rfl : xs = [] := List.eq_nil_of_length_eq_zero (by simpa using hown.1)
    obtain ⟨v', w', hr, h2, h3, _⟩ := run_append_own (P := P) w w.heap.size t ty e i z size bytes ht hi hz hsize hby hzs hsz (.slice none 0 0) 0 [] (World.ownsRow_nil w _ e size) a m c news hl hnews h1 h63 hbytes (Nat.le_refl _)
    exact ⟨v', w', hr, own_mono h2 hbase, h3, fun k hk => Or.inr (h2.lt k hk).1⟩
  · by_cases hroom : n + m ≤ cap
    · obtain ⟨w', hr, h2, h3⟩ := run_append_fits (P := P) w base t ty e i size ht hi hsize g n cap xs hown a m c news hl hnews h1 hroom
      exact ⟨_, w', hr, h2, h3, fun k hk => Or.inl hk⟩
    · obtain ⟨v', w', hr, h2, h3⟩ := run_append_arg_grows (P := P) w t ty e i z size bytes ht hi hz hsize hby hzs hsz ⟨g, 0, none⟩ n cap xs hown.1 (hown.cells rfl) a m c news hl hnews (by omega) h63 hbytes
      exact ⟨v', w', hr, own_mono h2 hbase, ⟨h3.os, h3.tape, h3.output, h3.size, fun k hk _ => h3.block k hk (by simp)⟩, fun k hk => Or.inr (h2.lt k hk).1⟩

theorem wpList_append_own2 {P : Program} (w : World) {ops : Array Oper} {rest : List Oper} {o : Oper} {a : Act} {Q : Exit → Act → World → Prop} (hgd : o.guard = none) (s x : Operand) (t : TypeId)
    (ho : o.op = .call { callee := .builtin .append, args := #[s, x], argTypes := #[t, t] })
    (base : Nat) (e : TypeId) (i : TypeInfo) (z : Value) (size bytes : Nat) (ht : P.underlying t = some (.slice e)) (hi : P.info? e = some i) (hz : i.zero = some z)
    (hsize : i.size = size) (hby : i.bytes = bytes) (hzs : z.cells.size = size) (hsz : 0 < size)
    (v : Value) (n : Nat) (xs : List Value) (hs : a.eval s = v) (hown : w.ownsRow base e size v n xs)
    (ad : Addr) (m c : Nat) (news : List Value) (hx : a.eval x = .slice (some ad) m c) (hl : news.length = m * size) (hnews : ∀ j u, news[j]? = some u → w.cell? (ad.add j) = some u) (h1 : ∀ u ∈ news, u.oneCell' = true)
    (h63 : n + m ≤ maxLen) (hbytes : (n + m) * bytes ≤ 140737488355328) (hbase : base ≤ w.heap.size)
    (h : ∀ v' w', w'.ownsRow base e size v' (n + m) (xs ++ news) → w.grownBy w' v.ownBlock → (∀ k, v'.ownBlock = some k → v.ownBlock = some k ∨ w.heap.size ≤ k) → wpList P ops Q rest (a.put o.dst v') w') : wpList P ops Q (o :: rest) a w := by
  refine wpList_plain hgd fun _ hK => ?_
  obtain ⟨v', w', hr, h2, h3, h4⟩ := run_append_own2 (P := P) w base t o.type e i z size bytes ht hi hz hsize hby hzs hsz v n xs hown ad m c news hl hnews h1 h63 hbytes hbase
  unfold Oper.wp execOp
  simp only [ho, resolve, invoke, builtin, Sem.run_bind, Sem.run_pure, Result.andThen_ok, List.map_toArray, List.map_cons, List.map_nil, hs, hx, hr]
  exact hK _ _ (h v' w' h2 h3 h4)

namespace Hx
/-- A step with its plate and its number. -/
structure Lst where
  pl : Nat
  no : Nat
  x : Stp

def lab (i : Nat) (p : List Stp) : List Lst := p.mapIdx fun j x => ⟨i, j, x⟩
def labs (ps : List (List Stp)) : List Lst := (ps.mapIdx lab).flatten
theorem lab_nil (i : Nat) : lab i [] = [] := rfl
theorem labs_nil : labs [] = [] := rfl
theorem lab_snoc (i : Nat) (p : List Stp) (x : Stp) : lab i (p ++ [x]) = lab i p ++ [⟨i, p.length, x⟩] := by simp [lab, List.mapIdx_append]
theorem labs_snoc (ps : List (List Stp)) (p : List Stp) : labs (ps ++ [p]) = labs ps ++ lab ps.length p := by simp [labs, List.mapIdx_append]
theorem lab_x (i : Nat) (p : List Stp) : (lab i p).map (·.x) = p := by
  apply List.ext_getElem?
  intro n
  simp [lab, List.getElem?_mapIdx]
  cases p[n]? <;> rfl
theorem labs_append (ps qs : List (List Stp)) : (labs (ps ++ qs)).map (·.x) = (labs ps).map (·.x) ++ qs.flatten := by
  induction qs generalizing ps with
  | nil => simp
  | cons q r ih =>
    have e : ps ++ q :: r = (ps ++ [q]) ++ r := by simp
    rw [e, ih, labs_snoc, List.map_append, lab_x, List.flatten_cons, List.append_assoc]
theorem labs_x (ps : List (List Stp)) : (labs ps).map (·.x) = ps.flatten := by
  have := labs_append [] ps
  simpa [labs_nil] using this
theorem labs_len (ps : List (List Stp)) : (labs ps).length = ps.flatten.length := by rw [← labs_x, List.length_map]

theorem numF_good {s : ByteArray} {m : Nat} {st : St} (hm : 1 ≤ m) (h : (numF s m st).2.bad = false) : st.bad = false ∧ st.pos + 1 ≤ (numF s m st).2.pos := by
  obtain ⟨pos, bad⟩ := st
  cases bad
  · refine ⟨rfl, ?_⟩
    by_cases h0 : byteAt s pos = 48
    · rw [numF_zero rfl h0]; exact Nat.le_refl _
    · by_cases h1 : 49 ≤ byteAt s pos ∧ byteAt s pos ≤ 57
      · rw [numF_dig rfl h1]
        obtain ⟨k, rfl⟩ : ∃ k, m = k + 1 := ⟨m - 1, by omega⟩
        show pos + 1 ≤ (digF s (k + 1) pos 0).2
        rw [digF_step (by omega)]
        exact digF_ge s k (pos + 1) _
      · rw [numF_no rfl (by simp only; omega)] at h
        cases h
  · rw [numF_bad rfl] at h; cases h
theorem boundsF_good {s : ByteArray} {st : St} (h : (boundsF s st).2.bad = false) : st.bad = false ∧ st.pos + 3 ≤ (boundsF s st).2.pos := by
  have h3 := numF_good (s := s) (m := 3) (by omega) h
  obtain ⟨b2, _, e2⟩ := takeF_good h3.1
  have h1 := numF_good (s := s) (m := 3) (by omega) b2
  refine ⟨h1.1, ?_⟩
  have h4 := h3.2
  rw [e2] at h4
  have h5 := h1.2
  show st.pos + 3 ≤ (numF s 3 (takeF s 45 (numF s 3 st).2)).2.pos
  rw [e2]
  simp only at h4
  omega
theorem openF_good {s : ByteArray} {n : Nat} {st : St} (h : (openF s n st).bad = false) : st.bad = false ∧ st.pos + 3 ≤ (openF s n st).pos := by
  obtain ⟨b2, _, e2⟩ := takeF_good h
  have e3 : openF s n st = ⟨(letterF s n (takeF s 59 st)).pos + 1, false⟩ := e2
  by_cases h26 : n < 26
  · have el : letterF s n (takeF s 59 st) = takeF s (97 + n) (takeF s 59 st) := by rw [letterF, if_pos h26]
    rw [el] at b2 e3
    obtain ⟨b1, _, e1⟩ := takeF_good b2
    obtain ⟨b0, _, e0⟩ := takeF_good b1
    refine ⟨b0, ?_⟩
    rw [e3, e1, e0]
    show st.pos + 3 ≤ st.pos + 1 + 1 + 1
    omega
  · rw [letterF, if_neg h26] at b2
    cases b2
theorem plateF_six {s : ByteArray} {n : Nat} {st : St} (h : (plateF s n st).1.bad = false) : st.bad = false ∧ st.pos + 6 ≤ (plateF s n st).1.pos := by
  have hb : (boundsF s (openF s n st)).2.bad = false := by
    cases hb : (boundsF s (openF s n st)).2.bad
    · rfl
    · unfold plateF at h; rw [afterF_bad hb] at h; simp only at h; rw [hb] at h; cases h
  have h1 := boundsF_good hb
  have h2 := openF_good h1.1
  have h3 : (boundsF s (openF s n st)).2.pos ≤ (plateF s n st).1.pos := afterF_ge s _ _
  exact ⟨h2.1, by omega⟩
end Hx

/-- A step of the document's plan: ten cells. -/
def lstCells (y : Hx.Lst) : List Value := [.int .i64 (y.pl : Int), .int .i64 (y.no : Int), .int .i64 (y.x.lo : Int), .int .i64 (y.x.hi : Int), .bool y.x.rest, .int .i64 (y.x.mn : Int), .int .i64 (y.x.mx : Int), .int .i64 0, .int .i64 0, .int .i64 0]
def lstsCells (l : List Hx.Lst) : List Value := l.flatMap lstCells
theorem lstsCells_snoc (l : List Hx.Lst) (y : Hx.Lst) : lstsCells (l ++ [y]) = lstsCells l ++ lstCells y := by simp [lstsCells]
theorem lstCells_one (y : Hx.Lst) : ∀ u ∈ lstCells y, u.oneCell' = true := by
  intro u hu
  simp [lstCells] at hu
  rcases hu with rfl | rfl | rfl | rfl | rfl | rfl | rfl | rfl <;> rfl

end Go.Proofs.YtppcnlkhdgmaiaaDoor
namespace Go.Proofs.YtppcnlkhdgmaiaaDoor
open Go.RowKit

namespace Hx
/-- The digits of a number. -/
def decF (n : Nat) : List UInt8 := if n < 10 then [UInt8.ofNat (48 + n)] else decF (n / 10) ++ [UInt8.ofNat (48 + n % 10)]
termination_by n
decreasing_by omega
theorem decF_one {n : Nat} (h : n < 10) : decF n = [UInt8.ofNat (48 + n)] := by rw [decF, if_pos h]
theorem decF_len (n : Nat) : (decF n).length ≤ n + 1 := by
  induction n using decF.induct with
  | case1 n h => rw [decF, if_pos h]; simp
  | case2 n h ih =>
    rw [decF, if_neg h, List.length_append]
    show _ + 1 ≤ _
    omega
theorem decF_more {n : Nat} (h : ¬ n < 10) : decF n = decF (n / 10) ++ [UInt8.ofNat (48 + n % 10)] := by rw [decF, if_neg h]
end Hx

theorem digit_ext : ∀ d, d < 10 → (⟨#[48, 49, 50, 51, 52, 53, 54, 55, 56, 57]⟩ : ByteArray).extract d (d + 1) = ⟨#[UInt8.ofNat (48 + d)]⟩ := by decide
theorem letter_ext : ∀ d, d < 26 → (⟨#[97, 98, 99, 100, 101, 102, 103, 104, 105, 106, 107, 108, 109, 110, 111, 112, 113, 114, 115, 116, 117, 118, 119, 120, 121, 122]⟩ : ByteArray).extract d (d + 1) = ⟨#[UInt8.ofNat (97 + d)]⟩ := by decide
theorem bytes_app (a b : List UInt8) : (⟨a.toArray⟩ : ByteArray) ++ ⟨b.toArray⟩ = ⟨(a ++ b).toArray⟩ := by
  apply ByteArray.ext
  rw [ByteArray.data_append]
  simp
theorem digit_app (d : Nat) (hd : d < 10) (l : List UInt8) : (⟨#[48, 49, 50, 51, 52, 53, 54, 55, 56, 57]⟩ : ByteArray).extract d (d + 1) ++ ⟨l.toArray⟩ = ⟨([UInt8.ofNat (48 + d)] ++ l).toArray⟩ := by
  rw [digit_ext d hd]; exact bytes_app [UInt8.ofNat (48 + d)] l
theorem letter_app (d : Nat) (hd : d < 26) (l : List UInt8) : (⟨#[97, 98, 99, 100, 101, 102, 103, 104, 105, 106, 107, 108, 109, 110, 111, 112, 113, 114, 115, 116, 117, 118, 119, 120, 121, 122]⟩ : ByteArray).extract d (d + 1) ++ ⟨l.toArray⟩ = ⟨([UInt8.ofNat (97 + d)] ++ l).toArray⟩ := by
  rw [letter_ext d hd]; exact bytes_app [UInt8.ofNat (97 + d)] l
theorem ret_str {a b : ByteArray} (h : a = b) : Ending.returned (.string a) = .returned (.string b) := by rw [h]

/-- A step's name. -/
def nameB (pl no : Nat) : List UInt8 := [UInt8.ofNat (97 + pl)] ++ Hx.decF no

end Go.Proofs.YtppcnlkhdgmaiaaDoor
namespace Go.Proofs.YtppcnlkhdgmaiaaDoor
namespace Hx
theorem num1_one (s : ByteArray) (st : St) : numF s 1 st = ((oneF s 48 57 st).1, if st.bad then st else (oneF s 48 57 st).2) := by
  obtain ⟨pos, bad⟩ := st
  cases bad
  · by_cases h0 : byteAt s pos = 48
    · rw [oneF_yes rfl (by simp only; omega) (by simp only; omega), numF_zero rfl h0]; simp [h0]
    · by_cases h1 : 49 ≤ byteAt s pos ∧ byteAt s pos ≤ 57
      · rw [oneF_yes rfl (by simp only; omega) (by simp only; omega), numF_dig rfl h1]
        rw [digF_step (k := 0) (at_ := pos) (v := 0) (by omega)]
        simp [digF]
      · rw [oneF_no (by simp only; omega), numF_no rfl (by simp only; omega)]; simp
  · rw [oneF_bad rfl, numF_bad rfl]; simp
theorem num1_one' (s : ByteArray) (st : St) : numF s 1 st = oneF s 48 57 st := by
  rw [num1_one]
  obtain ⟨pos, bad⟩ := st
  cases bad
  · simp
  · rw [oneF_bad rfl]; simp

/-- What the program reads of a rest, of a place, of a step. -/
def ptRest (s : ByteArray) (st : St) : (Bool × Int × Nat × Nat) × St :=
  if byteAt s st.pos = 60 then
    ((true, ((numF s 1 (takeF s 60 st)).1 : Int), (boundsF s (takeF s 58 (numF s 1 (takeF s 60 st)).2)).1.lo, (boundsF s (takeF s 58 (numF s 1 (takeF s 60 st)).2)).1.hi), (boundsF s (takeF s 58 (numF s 1 (takeF s 60 st)).2)).2)
  else ((false, -1, 0, 0), st)
def ptInto (s : ByteArray) (st : St) : Int × St :=
  if byteAt s st.pos = 62 then (((numF s 1 (takeF s 62 st)).1 : Int), (numF s 1 (takeF s 62 st)).2) else (-1, st)
def ptHead (s : ByteArray) (st : St) : (Nat × Nat × Nat × Bd) × St :=
  let p := oneF s 97 100 (takeF s 59 st)
  let n := numF s 1 p.2
  let t := numF s 5 (takeF s 64 n.2)
  let b := boundsF s (takeF s 43 t.2)
  ((p.1, n.1, t.1, b.1), b.2)
def ptF (s : ByteArray) (st : St) : TStp × St :=
  let h := ptHead s st
  let r := ptRest s h.2
  let i := ptInto s r.2
  (⟨h.1.1, h.1.2.1, h.1.2.2.2.lo, h.1.2.2.2.hi, r.1.1, r.1.2.2.1, r.1.2.2.2, h.1.2.2.1, r.1.2.1, i.1⟩, i.2)

theorem ptRest_bad {s : ByteArray} {st : St} (h : st.bad = true) : (ptRest s st).2 = st := by
  unfold ptRest
  split
  · rw [takeF_bad h, numF_bad h, takeF_bad h, boundsF_bad h]
  · rfl
theorem ptInto_bad {s : ByteArray} {st : St} (h : st.bad = true) : (ptInto s st).2 = st := by
  unfold ptInto
  split
  · rw [takeF_bad h, numF_bad h]
  · rfl
theorem ptRest_good {s : ByteArray} {st : St} (h : st.bad = false) : ptRest s st = trestF s st := by
  unfold ptRest trestF
  by_cases e : byteAt s st.pos = 60
  · rw [if_pos e]
    have e2 : nextF s 60 st = (true, ⟨st.pos + 1, false⟩) := by unfold nextF; rw [if_pos ⟨h, e⟩]
    simp only [e2, if_true, takeF_yes h e, num1_one', boundsF]
  · rw [if_neg e]
    have e2 : nextF s 60 st = (false, st) := nextF_no (fun g => e g.2)
    simp only [e2]
    rfl
theorem ptInto_good {s : ByteArray} {st : St} (h : st.bad = false) : ptInto s st = tintoF s st := by
  unfold ptInto tintoF
  by_cases e : byteAt s st.pos = 62
  · rw [if_pos e]
    have e2 : nextF s 62 st = (true, ⟨st.pos + 1, false⟩) := by unfold nextF; rw [if_pos ⟨h, e⟩]
    simp only [e2, if_true, takeF_yes h e, num1_one']
  · rw [if_neg e]
    have e2 : nextF s 62 st = (false, st) := nextF_no (fun g => e g.2)
    simp only [e2]
    rfl
theorem trestF_bad {s : ByteArray} {st : St} (h : st.bad = true) : (trestF s st).2 = st := by
  have e2 : nextF s 60 st = (false, st) := nextF_no (by simp [h])
  simp only [trestF, e2]; rfl
theorem tintoF_bad {s : ByteArray} {st : St} (h : st.bad = true) : (tintoF s st).2 = st := by
  have e2 : nextF s 62 st = (false, st) := nextF_no (by simp [h])
  simp only [tintoF, e2]; rfl
theorem tstepF_head (s : ByteArray) (st : St) : tstepF s st = (⟨(ptHead s st).1.1, (ptHead s st).1.2.1, (ptHead s st).1.2.2.2.lo, (ptHead s st).1.2.2.2.hi, (trestF s (ptHead s st).2).1.1, (trestF s (ptHead s st).2).1.2.2.1, (trestF s (ptHead s st).2).1.2.2.2, (ptHead s st).1.2.2.1, (trestF s (ptHead s st).2).1.2.1, (tintoF s (trestF s (ptHead s st).2).2).1⟩, (tintoF s (trestF s (ptHead s st).2).2).2) := by
  simp only [tstepF, ptHead, num1_one', boundsF]
theorem ptF_st (s : ByteArray) (st : St) : (ptF s st).2 = (tstepF s st).2 := by
  rw [tstepF_head]
  show (ptInto s (ptRest s (ptHead s st).2).2).2 = _
  cases h : (ptHead s st).2.bad
  · rw [ptRest_good h]
    cases h2 : (trestF s (ptHead s st).2).2.bad
    · rw [ptInto_good h2]
    · rw [ptInto_bad h2, tintoF_bad h2]
  · rw [ptRest_bad h, trestF_bad h, ptInto_bad h, tintoF_bad h]
theorem ptF_val (s : ByteArray) (st : St) (hg : (tstepF s st).2.bad = false) : ptF s st = tstepF s st := by
  rw [tstepF_head] at hg ⊢
  cases h : (ptHead s st).2.bad
  · cases h2 : (trestF s (ptHead s st).2).2.bad
    · simp only [ptF, ptRest_good h, ptInto_good h2]
    · simp only [tintoF_bad h2] at hg
      rw [h2] at hg; cases hg
  · simp only [trestF_bad h, tintoF_bad h] at hg
    rw [h] at hg; cases hg
theorem ptHead_le {s : ByteArray} {st : St} (h : st.pos ≤ s.size) : (ptHead s st).2.pos ≤ s.size :=
  boundsF_le (takeF_le (by omega) (numF_le (takeF_le (by omega) (numF_le (oneF_le (by omega) (takeF_le (by omega) h))))))
theorem ptRest_le {s : ByteArray} {st : St} (h : st.pos ≤ s.size) : (ptRest s st).2.pos ≤ s.size := by
  unfold ptRest
  split
  · exact boundsF_le (takeF_le (by omega) (numF_le (takeF_le (by omega) h)))
  · exact h
theorem ptInto_le {s : ByteArray} {st : St} (h : st.pos ≤ s.size) : (ptInto s st).2.pos ≤ s.size := by
  unfold ptInto
  split
  · exact numF_le (takeF_le (by omega) h)
  · exact h
theorem ptF_le {s : ByteArray} {st : St} (h : st.pos ≤ s.size) : (ptF s st).2.pos ≤ s.size := ptInto_le (ptRest_le (ptHead_le h))
end Hx
end Go.Proofs.YtppcnlkhdgmaiaaDoor
namespace Go.Proofs.YtppcnlkhdgmaiaaDoor
namespace Hx

/-- What holds of every step of a table that was read. -/
structure TOk (y : TStp) : Prop where
  pl : y.pl < 4
  no : y.no < 10
  lo : y.lo < 1000
  hi : y.hi < 1000
  mn : y.mn < 1000
  mx : y.mx < 1000
  t : y.t < 100000
  norest : y.rest = false → y.mn = 0 ∧ y.mx = 0 ∧ y.out = -1
  rest : y.rest = true → 0 ≤ y.out ∧ y.out ≤ 9
  inn0 : -1 ≤ y.inn
  inn1 : y.inn ≤ 9

theorem oneF_val {s : ByteArray} {lo hi : Nat} {st : St} : (oneF s lo hi st).1 ≤ hi - lo := by
  unfold oneF
  split
  · simp
  · rename_i g
    simp only
    omega
theorem trestF_ok (s : ByteArray) (st : St) : (trestF s st).1.2.2.1 < 1000 ∧ (trestF s st).1.2.2.2 < 1000 ∧ ((trestF s st).1.1 = false → (trestF s st).1.2.2.1 = 0 ∧ (trestF s st).1.2.2.2 = 0 ∧ (trestF s st).1.2.1 = -1) ∧ ((trestF s st).1.1 = true → 0 ≤ (trestF s st).1.2.1 ∧ (trestF s st).1.2.1 ≤ 9) := by
  by_cases hb : (nextF s 60 st).1 = true
  · simp only [trestF, if_pos hb]
    refine ⟨numF_val s 3 _, numF_val s 3 _, (fun h => absurd h (by decide)), fun _ => ⟨by omega, ?_⟩⟩
    have := oneF_val (s := s) (lo := 48) (hi := 57) (st := (nextF s 60 st).2)
    omega
  · simp only [trestF, if_neg hb]
    simp
theorem tintoF_ok (s : ByteArray) (st : St) : -1 ≤ (tintoF s st).1 ∧ (tintoF s st).1 ≤ 9 := by
  by_cases hb : (nextF s 62 st).1 = true
  · simp only [tintoF, if_pos hb]
    have := oneF_val (s := s) (lo := 48) (hi := 57) (st := (nextF s 62 st).2)
    omega
  · simp only [tintoF, if_neg hb]
    omega
theorem tstepF_ok (s : ByteArray) (st : St) : TOk (tstepF s st).1 := by
  have a1 := oneF_val (s := s) (lo := 97) (hi := 100) (st := takeF s 59 st)
  have a2 := oneF_val (s := s) (lo := 48) (hi := 57) (st := (oneF s 97 100 (takeF s 59 st)).2)
  refine ⟨?_, ?_, numF_val s 3 _, numF_val s 3 _, (trestF_ok s _).1, (trestF_ok s _).2.1, numF_val s 5 _, (trestF_ok s _).2.2.1, (trestF_ok s _).2.2.2, (tintoF_ok s _).1, (tintoF_ok s _).2⟩
  · show (oneF s 97 100 (takeF s 59 st)).1 < 4; omega
  · show (oneF s 48 57 (oneF s 97 100 (takeF s 59 st)).2).1 < 10; omega
theorem tablesF_ok (s : ByteArray) (st : St) (acc : List TStp) (h : ∀ y ∈ acc, TOk y) : ∀ y ∈ (tablesF s st acc).2, TOk y := by
  induction st, acc using tablesF.induct (s := s) with
  | case1 st acc hc ih =>
    rw [tablesF, dif_pos hc]
    refine ih ?_
    intro y hy
    rcases List.mem_append.1 hy with hy | hy
    · exact h y hy
    · rw [List.mem_singleton.1 hy]; exact tstepF_ok s st
  | case2 st acc hc =>
    rw [tablesF, dif_neg hc]
    exact h
theorem tableF_ok (s : ByteArray) : ∀ y ∈ (tableF s).2, TOk y := tablesF_ok s _ [] (fun _ h => by cases h)

/-- How many steps of each of four plates are done, and where each stays. -/
def doneL (l : List TStp) : List Int := (List.range 4).map fun p => ((holdF l p).2 : Int)
def staysL (l : List TStp) : List Int := (List.range 4).map fun p => (holdF l p).1
theorem doneL_len (l : List TStp) : (doneL l).length = 4 := by simp [doneL]
theorem staysL_len (l : List TStp) : (staysL l).length = 4 := by simp [staysL]
theorem doneL_nil : doneL [] = [0, 0, 0, 0] := by decide
theorem staysL_nil : staysL [] = [-1, -1, -1, -1] := by decide
theorem doneL_get (l : List TStp) {p : Nat} (h : p < 4) : (doneL l)[p]? = some ((holdF l p).2 : Int) := by simp [doneL, h]
theorem staysL_get (l : List TStp) {p : Nat} (h : p < 4) : (staysL l)[p]? = some (holdF l p).1 := by simp [staysL, h]
theorem doneL_snoc (l : List TStp) (y : TStp) : doneL (l ++ [y]) = (doneL l).set y.pl ((holdF l y.pl).2 + 1 : Int) := by
  apply List.ext_getElem?
  intro i
  rw [List.getElem?_set]
  by_cases hi : i < 4
  · rw [doneL_get _ hi, holdF_snoc]
    by_cases e : y.pl = i
    · subst e; rw [if_pos rfl, if_pos rfl, doneL_len, if_pos hi]; simp
    · rw [if_neg e, if_neg e, doneL_get _ hi]
  · have h1 : (doneL (l ++ [y]))[i]? = none := List.getElem?_eq_none (by rw [doneL_len]; omega)
    have h2 : (doneL l)[i]? = none := List.getElem?_eq_none (by rw [doneL_len]; omega)
    rw [h1, h2]
    split
    · rw [doneL_len, if_neg (by omega)]
    · rfl
theorem staysL_snoc (l : List TStp) (y : TStp) : staysL (l ++ [y]) = (staysL l).set y.pl y.inn := by
  apply List.ext_getElem?
  intro i
  rw [List.getElem?_set]
  by_cases hi : i < 4
  · rw [staysL_get _ hi, holdF_snoc]
    by_cases e : y.pl = i
    · subst e; rw [if_pos rfl, if_pos rfl, staysL_len, if_pos hi]
    · rw [if_neg e, if_neg e, staysL_get _ hi]
  · have h1 : (staysL (l ++ [y]))[i]? = none := List.getElem?_eq_none (by rw [staysL_len]; omega)
    have h2 : (staysL l)[i]? = none := List.getElem?_eq_none (by rw [staysL_len]; omega)
    rw [h1, h2]
    split
    · rw [staysL_len, if_neg (by omega)]
    · rfl

/-- Does a step fit to where the plates stay? -/
def clashL (zs : List Int) (y : TStp) (a : Nat) : Bool := !(a == y.pl) && (decide (0 ≤ y.inn) && zs.getD a 0 == y.inn)
def tfitF (zs : List Int) (y : TStp) : Bool := y.out == zs.getD y.pl 0 && (List.range zs.length).all fun a => !clashL zs y a

theorem wrongB_ok {y : TStp} (h : TOk y) : wrongB 10 ⟨y.lo, y.hi, y.rest, y.mn, y.mx⟩ = (y.lo == 0 || decide (y.hi < y.lo) || decide (y.mx < y.mn)) := by
  cases hr : y.rest
  · obtain ⟨a, b, _⟩ := h.norest hr
    simp [wrongB, a, b]
  · simp [wrongB]
theorem staysL_getD (l : List TStp) {p : Nat} (h : p < 4) : (staysL l).getD p 0 = (holdF l p).1 := by
  rw [List.getD_eq_getElem?_getD, staysL_get l h]; rfl

/-- The program's test of a step is the document's. -/
theorem right_is {l : List TStp} {i : Nat} {y : TStp} (hy : l[i]? = some y) (h : TOk y) :
    rightF l i = (((y.no : Int) == ((holdF (l.take i) y.pl).2 : Int)) && !wrongB 10 ⟨y.lo, y.hi, y.rest, y.mn, y.mx⟩ && tfitF (staysL (l.take i)) y) := by
  have e1 : rightF l i = (ownRight l i y && (List.range 4).all fun a => !clash l i y a) := by simp only [rightF, hy]
  have e2 : ((List.range 4).all fun a => !clash l i y a) = ((List.range 4).all fun a => !clashL (staysL (l.take i)) y a) := by
    have : ∀ a ∈ List.range 4, (!clash l i y a) = (!clashL (staysL (l.take i)) y a) := by
      intro a ha
      have ha := List.mem_range.1 ha
      simp only [clash, clashL, staysL_getD _ ha]
    rw [Bool.eq_iff_iff, List.all_eq_true, List.all_eq_true]
    exact ⟨fun g a ha => by rw [← this a ha]; exact g a ha, fun g a ha => by rw [this a ha]; exact g a ha⟩
  have e3 : ((y.no : Int) == ((holdF (l.take i) y.pl).2 : Int)) = (y.no == (holdF (l.take i) y.pl).2) := by
    rw [Bool.eq_iff_iff, beq_iff_eq, beq_iff_eq]; omega
  rw [e1, e2, e3, wrongB_ok h, tfitF, staysL_len, staysL_getD _ h.pl, ownRight]
  cases (y.no == (holdF (l.take i) y.pl).2) <;> cases (y.lo == 0) <;> cases (decide (y.hi < y.lo)) <;> cases (decide (y.mx < y.mn)) <;> simp

theorem wrongF_step {l : List TStp} {k : Nat} (h : k < l.length) : wrongF l k = if rightF l k then wrongF l (k + 1) else (9, (k : Int)) := by
  rw [wrongF, if_pos h]
theorem wrongF_end {l : List TStp} {k : Nat} (h : ¬ k < l.length) : wrongF l k = (0, 0) := by
  rw [wrongF, if_neg h]
end Hx
end Go.Proofs.YtppcnlkhdgmaiaaDoor
namespace Go.Proofs.YtppcnlkhdgmaiaaDoor
namespace Hx
def scIs (s : ByteArray) (c : Nat) (st : St) : Bool × St := if byteAt s st.pos = c then (true, ⟨st.pos + 1, st.bad⟩) else (false, st)
def scMust (s : ByteArray) (c : Nat) (st : St) : St := if byteAt s st.pos = c then ⟨st.pos + 1, st.bad⟩ else ⟨st.pos, true⟩
def scNum (s : ByteArray) (st : St) : Nat × St := ((digF s 9 st.pos 0).1, ⟨(digF s 9 st.pos 0).2, st.bad || decide ((digF s 9 st.pos 0).2 = st.pos)⟩)
/-- Is this a name? -/
def nameOk (s : ByteArray) (p : Nat) : Prop := 97 ≤ byteAt s p ∧ byteAt s p ≤ 100 ∧ 48 ≤ byteAt s (p + 1) ∧ byteAt s (p + 1) ≤ 57
instance (s : ByteArray) (p : Nat) : Decidable (nameOk s p) := by unfold nameOk; infer_instance
def scName (s : ByteArray) (st : St) : (Nat × Nat) × St :=
  if st.pos + 1 < s.size then
    if nameOk s st.pos then ((byteAt s st.pos - 97, byteAt s (st.pos + 1) - 48), ⟨st.pos + 2, st.bad⟩) else ((0, 0), ⟨st.pos + 2, true⟩)
  else ((0, 0), ⟨st.pos, true⟩)
/-- An entry, as it is scanned. -/
structure Ent where
  pl : Nat
  no : Nat
  t : Nat
  lo : Nat
  hi : Nat
  out : Int
  mn : Nat
  mx : Nat
  inn : Int
def scRest (s : ByteArray) (st : St) : (Int × Nat × Nat) × St :=
  let r := scIs s 60 st
  if r.1 then
    let o := scNum s r.2
    let a := scNum s (scMust s 58 o.2)
    let b := scNum s (scMust s 45 a.2)
    (((o.1 : Int), a.1, b.1), b.2)
  else ((-1, 0, 0), r.2)
def scInto (s : ByteArray) (st : St) : Int × St :=
  let r := scIs s 62 st
  if r.1 then (((scNum s r.2).1 : Int), (scNum s r.2).2) else (-1, r.2)
def scStep (s : ByteArray) (st : St) : Ent × St :=
  let p := scName s (scMust s 59 st)
  let t := scNum s (scMust s 64 p.2)
  let l := scNum s (scMust s 43 t.2)
  let h := scNum s (scMust s 45 l.2)
  let r := scRest s h.2
  let i := scInto s r.2
  (⟨p.1.1, p.1.2, t.1, l.1, h.1, r.1.1, r.1.2.1, r.1.2.2, i.1⟩, i.2)

theorem scIs_le {s : ByteArray} {c : Nat} {st : St} (hc : c < 256) (h : st.pos ≤ s.size) : (scIs s c st).2.pos ≤ s.size := by
  unfold scIs; split
  · rename_i g; have := byteAt_in (s := s) (i := st.pos) (by omega); show st.pos + 1 ≤ _; omega
  · exact h
theorem scMust_le {s : ByteArray} {c : Nat} {st : St} (hc : c < 256) (h : st.pos ≤ s.size) : (scMust s c st).pos ≤ s.size := by
  unfold scMust; split
  · rename_i g; have := byteAt_in (s := s) (i := st.pos) (by omega); show st.pos + 1 ≤ _; omega
  · exact h
theorem scNum_le {s : ByteArray} {st : St} (h : st.pos ≤ s.size) : (scNum s st).2.pos ≤ s.size := digF_le s 9 st.pos 0 h
theorem scName_le {s : ByteArray} {st : St} (h : st.pos ≤ s.size) : (scName s st).2.pos ≤ s.size := by
  unfold scName; split
  · split <;> (show st.pos + 2 ≤ _; omega)
  · exact h
theorem scIs_ge (s : ByteArray) (c : Nat) (st : St) : st.pos ≤ (scIs s c st).2.pos := by unfold scIs; split <;> simp
theorem scMust_ge (s : ByteArray) (c : Nat) (st : St) : st.pos ≤ (scMust s c st).pos := by unfold scMust; split <;> simp
theorem scNum_ge (s : ByteArray) (st : St) : st.pos ≤ (scNum s st).2.pos := digF_ge s 9 st.pos 0
theorem scName_ge (s : ByteArray) (st : St) : st.pos ≤ (scName s st).2.pos := by unfold scName; split <;> (try split) <;> simp
theorem scIs_bad {s : ByteArray} {c : Nat} {st : St} (h : st.bad = true) : (scIs s c st).2.bad = true := by unfold scIs; split <;> simp [h]
theorem scMust_bad {s : ByteArray} {c : Nat} {st : St} (h : st.bad = true) : (scMust s c st).bad = true := by unfold scMust; split <;> simp [h]
theorem scNum_bad {s : ByteArray} {st : St} (h : st.bad = true) : (scNum s st).2.bad = true := by simp [scNum, h]
theorem scName_bad {s : ByteArray} {st : St} (h : st.bad = true) : (scName s st).2.bad = true := by unfold scName; split <;> (try split) <;> simp [h]
theorem scRest_bad {s : ByteArray} {st : St} (h : st.bad = true) : (scRest s st).2.bad = true := by
  unfold scRest
  simp only
  split
  · exact scNum_bad (scMust_bad (scNum_bad (scMust_bad (scNum_bad (scIs_bad h)))))
  · exact scIs_bad h
theorem scInto_bad {s : ByteArray} {st : St} (h : st.bad = true) : (scInto s st).2.bad = true := by
  unfold scInto
  simp only
  split
  · exact scNum_bad (scIs_bad h)
  · exact scIs_bad h
theorem scRest_ge (s : ByteArray) (st : St) : st.pos ≤ (scRest s st).2.pos := by
  unfold scRest
  simp only
  have h := scIs_ge s 60 st
  split
  · exact Nat.le_trans h (Nat.le_trans (scNum_ge s _) (Nat.le_trans (scMust_ge s 58 _) (Nat.le_trans (scNum_ge s _) (Nat.le_trans (scMust_ge s 45 _) (scNum_ge s _)))))
  · exact h
theorem scInto_ge (s : ByteArray) (st : St) : st.pos ≤ (scInto s st).2.pos := by
  unfold scInto
  simp only
  have h := scIs_ge s 62 st
  split
  · exact Nat.le_trans h (scNum_ge s _)
  · exact h
theorem scStep_ge (s : ByteArray) (st : St) : (scMust s 59 st).pos ≤ (scStep s st).2.pos :=
  Nat.le_trans (scName_ge s _) (Nat.le_trans (scMust_ge s 64 _) (Nat.le_trans (scNum_ge s _) (Nat.le_trans (scMust_ge s 43 _) (Nat.le_trans (scNum_ge s _) (Nat.le_trans (scMust_ge s 45 _) (Nat.le_trans (scNum_ge s _) (Nat.le_trans (scRest_ge s _) (scInto_ge s _))))))))
theorem scStep_gt {s : ByteArray} {st : St} (h : (scStep s st).2.bad = false) : st.pos < (scStep s st).2.pos := by
  have hg := scStep_ge s st
  by_cases e : byteAt s st.pos = 59
  · have : scMust s 59 st = ⟨st.pos + 1, st.bad⟩ := by unfold scMust; rw [if_pos e]
    rw [this] at hg
    exact hg
  · have hb : (scMust s 59 st).bad = true := by unfold scMust; rw [if_neg e]
    have : (scStep s st).2.bad = true := scInto_bad (scRest_bad (scNum_bad (scMust_bad (scNum_bad (scMust_bad (scNum_bad (scMust_bad (scName_bad hb))))))))
    rw [h] at this; cases this
theorem scm_lt {s : ByteArray} {st : St} (h1 : st.bad = false) (h2 : st.pos < s.size) : mT s (scStep s st).2 < mT s st := by
  have e : mT s st = s.size - st.pos := by simp [mT, h1, h2]
  rw [e]
  unfold mT
  split
  · rename_i g
    have := scStep_gt g.1
    omega
  · omega
def scEnts (s : ByteArray) (st : St) (acc : List Ent) : St × List Ent :=
  if _h : st.bad = false ∧ st.pos < s.size then scEnts s (scStep s st).2 (acc ++ [(scStep s st).1]) else (st, acc)
termination_by mT s st
decreasing_by exact scm_lt _h.1 _h.2
theorem scEnts_more {s : ByteArray} {st : St} {acc : List Ent} (h1 : st.bad = false) (h2 : st.pos < s.size) : scEnts s st acc = scEnts s (scStep s st).2 (acc ++ [(scStep s st).1]) := by
  rw [scEnts, dif_pos ⟨h1, h2⟩]
theorem scEnts_end {s : ByteArray} {st : St} {acc : List Ent} (h : ¬ (st.bad = false ∧ st.pos < s.size)) : scEnts s st acc = (st, acc) := by
  rw [scEnts, dif_neg h]
def scHead (s : ByteArray) : Nat × St := scNum s (scMust s 106 ⟨0, false⟩)
def scAll (s : ByteArray) : St × List Ent := scEnts s (scHead s).2 []

/-! ### Where the program's reader finds a table the scan finds the same. -/
def isDig (s : ByteArray) (p : Nat) : Prop := 48 ≤ byteAt s p ∧ byteAt s p ≤ 57
theorem digF_same {s : ByteArray} : ∀ {m p v : Nat} (k : Nat), m ≤ k → ¬ isDig s (digF s m p v).2 → digF s k p v = digF s m p v
  | 0, p, v, k, _, h => digF_stop h
  | m + 1, p, v, 0, hk, _ => by omega
  | m + 1, p, v, k + 1, hk, h => by
    by_cases g : 48 ≤ byteAt s p ∧ byteAt s p ≤ 57
    · rw [digF_step g] at h ⊢
      rw [digF_step g]
      exact digF_same k (by omega) h
    · rw [digF_stop g, digF_stop g]
theorem digF_gt {s : ByteArray} {m p v : Nat} (h : isDig s p) : p < (digF s (m + 1) p v).2 := by
  rw [digF_step h]
  have := digF_ge s m (p + 1) (v * 10 + (byteAt s p - 48))
  omega
theorem num_sc {s : ByteArray} {m : Nat} {st : St} (hm : 1 ≤ m) (hm9 : m ≤ 9) (h : (numF s m st).2.bad = false) (hd : ¬ isDig s (numF s m st).2.pos) : scNum s st = numF s m st := by
  cases hb : st.bad
  · by_cases h0 : byteAt s st.pos = 48
    · rw [numF_zero hb h0] at hd ⊢
      have g : isDig s st.pos := ⟨by omega, by omega⟩
      have e : digF s 9 st.pos 0 = (0, st.pos + 1) := by
        rw [digF_step g, digF_stop hd, h0]
      unfold scNum
      rw [e, hb]
      simp
    · by_cases h1 : 49 ≤ byteAt s st.pos ∧ byteAt s st.pos ≤ 57
      · rw [numF_dig hb h1] at hd ⊢
        have e := digF_same (s := s) (m := m) (p := st.pos) (v := 0) 9 hm9 hd
        have g : isDig s st.pos := ⟨by omega, by omega⟩
        obtain ⟨m', rfl⟩ : ∃ m', m = m' + 1 := ⟨m - 1, by omega⟩
        have := digF_gt (s := s) (m := m') (v := 0) g
        unfold scNum
        rw [e, hb]
        have hne : ¬ (digF s (m' + 1) st.pos 0).2 = st.pos := by omega
        simp [hne]
      · rw [numF_no hb (by omega)] at h
        cases h
  · rw [numF_bad hb] at h
    rw [hb] at h; cases h
theorem one_sc {s : ByteArray} {st : St} (h : (oneF s 48 57 st).2.bad = false) (hd : ¬ isDig s (oneF s 48 57 st).2.pos) : scNum s st = oneF s 48 57 st := by
  unfold oneF at h hd ⊢
  split at h
  · cases h
  · rename_i g
    rw [if_neg g] at hd ⊢
    have gd : isDig s st.pos := ⟨by omega, by omega⟩
    have hb : st.bad = false := by
      cases hb : st.bad
      · rfl
      · exact absurd (Or.inl hb) g
    have e : digF s 9 st.pos 0 = (byteAt s st.pos - 48, st.pos + 1) := by
      rw [digF_step gd, digF_stop hd]; simp
    unfold scNum
    rw [e, hb]
    simp
theorem take_sc {s : ByteArray} {c : Nat} {st : St} (h : (takeF s c st).bad = false) : scMust s c st = takeF s c st := by
  obtain ⟨h1, h2, h3⟩ := takeF_good h
  rw [h3]
  unfold scMust
  rw [if_pos h2, h1]
theorem next_sc {s : ByteArray} {c : Nat} {st : St} (h : st.bad = false) : scIs s c st = nextF s c st := by
  unfold scIs nextF
  by_cases e : byteAt s st.pos = c
  · rw [if_pos e, if_pos ⟨h, e⟩, h]
  · rw [if_neg e, if_neg (fun g => e g.2)]
theorem take_bad {s : ByteArray} {c : Nat} {st : St} (h : (takeF s c st).bad = false) : st.bad = false := (takeF_good h).1
theorem take_byte {s : ByteArray} {c : Nat} {st : St} (h : (takeF s c st).bad = false) : byteAt s st.pos = c := (takeF_good h).2.1
theorem num_bad {s : ByteArray} {m : Nat} {st : St} (h : (numF s m st).2.bad = false) : st.bad = false := by
  cases hb : st.bad
  · rfl
  · rw [numF_bad hb] at h; rw [hb] at h; cases h
theorem one_bad {s : ByteArray} {lo hi : Nat} {st : St} (h : (oneF s lo hi st).2.bad = false) : st.bad = false := by
  cases hb : st.bad
  · rfl
  · rw [oneF_bad hb] at h; cases h
theorem nodig {s : ByteArray} {p c : Nat} (h : byteAt s p = c) (hc : c < 48 ∨ 57 < c) : ¬ isDig s p := by unfold isDig; omega
theorem name_sc {s : ByteArray} {st : St} (h : (oneF s 48 57 (oneF s 97 100 st).2).2.bad = false) :
    scName s st = (((oneF s 97 100 st).1, (oneF s 48 57 (oneF s 97 100 st).2).1), (oneF s 48 57 (oneF s 97 100 st).2).2) := by
  have h1 := one_bad h
  have g1 : ¬ (st.bad = true ∨ byteAt s st.pos < 97 ∨ 100 < byteAt s st.pos) := fun g => by
    unfold oneF at h1; rw [if_pos g] at h1; cases h1
  have e1 : oneF s 97 100 st = (byteAt s st.pos - 97, ⟨st.pos + 1, false⟩) := by unfold oneF; rw [if_neg g1]
  rw [e1] at h ⊢
  have g2 : ¬ ((⟨st.pos + 1, false⟩ : St).bad = true ∨ byteAt s (st.pos + 1) < 48 ∨ 57 < byteAt s (st.pos + 1)) := fun g => by
    unfold oneF at h; rw [if_pos g] at h; cases h
  have e2 : oneF s 48 57 ⟨st.pos + 1, false⟩ = (byteAt s (st.pos + 1) - 48, ⟨st.pos + 1 + 1, false⟩) := by unfold oneF; rw [if_neg g2]
  rw [e2]
  have hin : st.pos + 1 < s.size := byteAt_in (by omega)
  have hb : st.bad = false := by
    cases hb : st.bad
    · rfl
    · exact absurd (Or.inl hb) g1
  unfold scName
  rw [if_pos hin, if_pos ⟨by omega, by omega, by omega, by omega⟩, hb]
def entOf (y : TStp) : Ent := ⟨y.pl, y.no, y.t, y.lo, y.hi, y.out, y.mn, y.mx, y.inn⟩
theorem rest_bad {s : ByteArray} {st : St} (h : (trestF s st).2.bad = false) : st.bad = false := by
  cases hb : st.bad
  · rfl
  · have : nextF s 60 st = (false, st) := nextF_no (by simp [hb])
    simp [trestF, this, hb] at h
theorem into_bad {s : ByteArray} {st : St} (h : (tintoF s st).2.bad = false) : st.bad = false := by
  cases hb : st.bad
  · rfl
  · have : nextF s 62 st = (false, st) := nextF_no (by simp [hb])
    simp [tintoF, this, hb] at h
theorem into_sc {s : ByteArray} {st : St} (h : (tintoF s st).2.bad = false) (hd : ¬ isDig s (tintoF s st).2.pos) : scInto s st = tintoF s st ∧ ¬ isDig s st.pos := by
  have hb := into_bad h
  unfold scInto
  rw [next_sc hb]
  by_cases e : byteAt s st.pos = 62
  · have en : nextF s 62 st = (true, ⟨st.pos + 1, false⟩) := by unfold nextF; rw [if_pos ⟨hb, e⟩]
    simp only [tintoF, en, if_true] at h hd ⊢
    rw [one_sc h hd]
    exact ⟨rfl, nodig e (by omega)⟩
  · have en : nextF s 62 st = (false, st) := nextF_no (by simp [e])
    simp only [tintoF, en] at h hd ⊢
    simp at hd ⊢
    exact hd
theorem rest_sc {s : ByteArray} {st : St} (h : (trestF s st).2.bad = false) (hd : ¬ isDig s (trestF s st).2.pos) : scRest s st = (((trestF s st).1.2.1, (trestF s st).1.2.2.1, (trestF s st).1.2.2.2), (trestF s st).2) ∧ ¬ isDig s st.pos := by
  have hb := rest_bad h
  unfold scRest
  rw [next_sc hb]
  by_cases e : byteAt s st.pos = 60
  · have en : nextF s 60 st = (true, ⟨st.pos + 1, false⟩) := by unfold nextF; rw [if_pos ⟨hb, e⟩]
    simp only [trestF, en, if_true] at h hd ⊢
    have h2 := num_bad h
    have h3 := take_bad h2
    have h4 := num_bad h3
    have h5 := take_bad h4
    rw [one_sc h5 (nodig (take_byte h4) (by omega)), take_sc h4, num_sc (by omega) (by omega) h3 (nodig (take_byte h2) (by omega)), take_sc h2, num_sc (by omega) (by omega) h hd]
    exact ⟨rfl, nodig e (by omega)⟩
  · have en : nextF s 60 st = (false, st) := nextF_no (by simp [e])
    simp only [trestF, en] at h hd ⊢
    simp at hd ⊢
    exact hd
theorem step_sc {s : ByteArray} {st : St} (h : (tstepF s st).2.bad = false) (hd : ¬ isDig s (tstepF s st).2.pos) : scStep s st = (entOf (tstepF s st).1, (tstepF s st).2) := by
  have h' : (tintoF s (trestF s (numF s 3 (takeF s 45 (numF s 3 (takeF s 43 (numF s 5 (takeF s 64 (oneF s 48 57 (oneF s 97 100 (takeF s 59 st)).2).2)).2)).2)).2).2).2.bad = false := h
  obtain ⟨e9, d8⟩ := into_sc h' hd
  have h8 := into_bad h'
  obtain ⟨e8, d7⟩ := rest_sc h8 d8
  have h7 := rest_bad h8
  have h6 := num_bad h7
  have h5 := take_bad h6
  have h4 := num_bad h5
  have h3 := take_bad h4
  have h2 := num_bad h3
  have h1 := take_bad h2
  have h0 := one_bad (one_bad h1)
  have a0 := take_sc h0
  have a1 := name_sc h1
  have a2 := take_sc h2
  have a3 := num_sc (by omega) (by omega) h3 (nodig (take_byte h4) (by omega))
  have a4 := take_sc h4
  have a5 := num_sc (by omega) (by omega) h5 (nodig (take_byte h6) (by omega))
  have a6 := take_sc h6
  have a7 := num_sc (by omega) (by omega) h7 d7
  unfold scStep
  simp only [a0, a1, a2, a3, a4, a5, a6, a7, e8, e9]
  rfl
/-- Behind a step of a table that is read to its end no digit stands. -/
theorem tables_good {s : ByteArray} : ∀ (st : St) (acc : List TStp), (tablesF s st acc).1.bad = false → st.bad = false := by
  intro st acc
  induction st, acc using tablesF.induct (s := s) with
  | case1 st acc hc ih => intro _; exact hc.1
  | case2 st acc hc =>
    intro h
    rw [tablesF, dif_neg hc] at h
    exact h
theorem tables_dig {s : ByteArray} {st : St} {acc : List TStp} (h : (tablesF s st acc).1.bad = false) : ¬ isDig s st.pos := by
  by_cases hp : st.pos < s.size
  · have hb := tables_good st acc h
    rw [tablesF_more hb hp] at h
    have h1 := tables_good _ _ h
    cases hk : (takeF s 59 st).bad
    · exact nodig (take_byte hk) (by omega)
    · rw [tstepF_bad hk] at h1; cases h1
  · intro g
    have := byteAt_ge (s := s) (i := st.pos) (by omega)
    unfold isDig at g
    omega
theorem tables_sc {s : ByteArray} : ∀ (st : St) (acc : List TStp), (tablesF s st acc).1.bad = false → scEnts s st (acc.map entOf) = ((tablesF s st acc).1, (tablesF s st acc).2.map entOf) := by
  intro st acc
  induction st, acc using tablesF.induct (s := s) with
  | case1 st acc hc ih =>
    intro h
    rw [tablesF_more hc.1 hc.2] at h ⊢
    rw [scEnts_more hc.1 hc.2, step_sc (tables_good _ _ h) (tables_dig h)]
    have := ih h
    rw [List.map_append] at this
    exact this
  | case2 st acc hc =>
    intro _
    rw [tablesF_end hc, scEnts_end hc]
theorem table_sc {s : ByteArray} (h : (tableF s).1.bad = false) : scHead s = theadF s ∧ scAll s = ((tableF s).1, (tableF s).2.map entOf) := by
  have h1 : (theadF s).2.bad = false := tables_good _ _ h
  have h2 := num_bad h1
  have e : scHead s = theadF s := by
    unfold scHead theadF
    rw [take_sc h2]
    exact num_sc (by omega) (by omega) h1 (tables_dig h)
  refine ⟨e, ?_⟩
  unfold scAll
  rw [e]
  exact tables_sc _ [] h
end Hx
end Go.Proofs.YtppcnlkhdgmaiaaDoor
namespace Go.Proofs.YtppcnlkhdgmaiaaDoor
open Go.RowKit
set_option maxHeartbeats 1000000 in
theorem scis_any (s : ByteArray) (b : Nat) (st : Hx.St) (c : Int) (cn : Nat) (w : World) (hs : s.size ≤ 10000000) (hp : st.pos ≤ s.size) (hc : c = (cn : Int)) (hcn : cn < 256) (hr : Rd 95 s b st w) :
    Calls Tryd.prog 39 #[.pointer (some ⟨b, 0, none⟩), .int .u8 c] w fun e w' => e = .returned (.bool (Hx.scIs s cn st).1) ∧ Rd 95 s b (Hx.scIs s cn st).2 w' ∧ w.grownBy w' (some b) := by
  have c0 := hr.c0
  have c1 := hr.c1
  have f1 := hr.fz 1
  have HC := (show Hid (c = (cn : Int)) from hc)
  have HR := (show Hid (Rd 95 s b st w) from hr)
  clear hc hr
  obtain ⟨pos, bad⟩ := st
  simp only at c1 hp
  by_cases hlt : pos < s.size
  · by_cases he : ((s[pos]'hlt).toNat : Int) = c
    · have HF : Hid (Hx.scIs s cn ⟨pos, bad⟩ = (true, ⟨pos + 1, bad⟩)) := by
        show _ = _
        unfold Hx.scIs
        rw [if_pos (by show Hx.byteAt s pos = cn; rw [Hx.byteAt_lt hlt]; have := unhide HC; omega)]
      have hne : (((s[pos]'hlt).toNat : Int) != c) = false := by simp [he]
      have hge : decide ((s.size : Int) ≤ (pos : Int)) = false := by simp; omega
      have HE := hide he
      clear he
      go_enter Tryd.func39, Tryd.ntmps39
      go_wp2_with fail
      go_quiet (fail)
      go_wp2_with fail
      go_returns
      rw [unhide HF]
      exact ⟨rfl, Rd.set1 (Rd.drewN (unhide HR) _) (pos + 1), grown_trans (grown_drewN _ _ _) (grown_set _ _ _ _)⟩
    · have HF : Hid (Hx.scIs s cn ⟨pos, bad⟩ = (false, ⟨pos, bad⟩)) := by
        show _ = _
        unfold Hx.scIs
        rw [if_neg (by show ¬ Hx.byteAt s pos = cn; rw [Hx.byteAt_lt hlt]; have := unhide HC; omega)]
      have hne : (((s[pos]'hlt).toNat : Int) != c) = true := by simpa using he
      have hge : decide ((s.size : Int) ≤ (pos : Int)) = false := by simp; omega
      have HE := hide he
      clear he
      go_enter Tryd.func39, Tryd.ntmps39
      go_wp2_with fail
      go_quiet (fail)
      go_wp2_with fail
      go_returns
      rw [unhide HF]
      exact ⟨rfl, Rd.drewN (unhide HR) _, grown_drewN _ _ _⟩
  · have HF : Hid (Hx.scIs s cn ⟨pos, bad⟩ = (false, ⟨pos, bad⟩)) := by
      show _ = _
      unfold Hx.scIs
      rw [if_neg (by show ¬ Hx.byteAt s pos = cn; rw [Hx.byteAt_ge (by omega)]; omega)]
    have hge : decide ((s.size : Int) ≤ (pos : Int)) = true := by simp; omega
    go_enter Tryd.func39, Tryd.ntmps39
    go_wp2_with fail
    go_quiet (fail)
    go_wp2_with fail
    go_returns
    rw [unhide HF]
    exact ⟨rfl, Rd.drewN (unhide HR) _, grown_drewN _ _ _⟩

set_option maxHeartbeats 1000000 in
theorem scmust_any (s : ByteArray) (b : Nat) (st : Hx.St) (c : Int) (cn : Nat) (w : World) (hs : s.size ≤ 10000000) (hp : st.pos ≤ s.size) (hc : c = (cn : Int)) (hcn : cn < 256) (hr : Rd 95 s b st w) :
    Calls Tryd.prog 36 #[.pointer (some ⟨b, 0, none⟩), .int .u8 c] w fun e w' => e = .returned (.tuple #[]) ∧ Rd 95 s b (Hx.scMust s cn st) w' ∧ w.grownBy w' (some b) := by
  have HI := hide (scis_any s b st c cn w hs hp hc hcn hr)
  obtain ⟨r, hrr⟩ : ∃ r, r = Hx.scIs s cn st := ⟨_, rfl⟩
  rw [← hrr] at HI
  clear hr hc
  by_cases he : Hx.byteAt s st.pos = cn
  · have HF : Hid (Hx.scMust s cn st = ⟨st.pos + 1, st.bad⟩) := by show _ = _; unfold Hx.scMust; rw [if_pos he]
    obtain rfl : r = (true, ⟨st.pos + 1, st.bad⟩) := by rw [hrr]; unfold Hx.scIs; rw [if_pos he]
    clear hrr he
    go_enter Tryd.func36, Tryd.ntmps36
    go_wp2_with fail
    refine (unhide HI).mono ?_
    rintro e w1 ⟨rfl, hr1, hg1⟩
    have HR := hide hr1
    have HG := hide hg1
    clear hr1 hg1
    go_wp2_with fail
    go_end0
    rw [unhide HF]
    exact ⟨rfl, unhide HR, unhide HG⟩
  · have HF : Hid (Hx.scMust s cn st = ⟨st.pos, true⟩) := by show _ = _; unfold Hx.scMust; rw [if_neg he]
    obtain rfl : r = (false, st) := by rw [hrr]; unfold Hx.scIs; rw [if_neg he]
    clear hrr he
    go_enter Tryd.func36, Tryd.ntmps36
    go_wp2_with fail
    refine (unhide HI).mono ?_
    rintro e w1 ⟨rfl, hr1, hg1⟩
    have c2 := hr1.c2
    have f2 := hr1.fz 2
    have HR := hide hr1
    have HG := hide hg1
    clear hr1 hg1
    go_wp2_with fail
    go_end0
    rw [unhide HF]
    exact ⟨rfl, Rd.set2 (unhide HR) true, grown_trans (unhide HG) (grown_set _ _ _ _)⟩
end Go.Proofs.YtppcnlkhdgmaiaaDoor
