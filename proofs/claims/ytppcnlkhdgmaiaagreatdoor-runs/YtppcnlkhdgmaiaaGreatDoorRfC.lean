/- Laws for the document's reading of a whole protocol: an append that tells where the new slice lies; the steps with their plates and numbers. -/
import Derived.Test.YtppcnlkhdgmaiaaGreatDoorRfB
import Derived.Test.YtppcnlkhdgmaiaaGreatDoorRdG
namespace Go.Proofs.YtppcnlkhdgmaiaaGreatDoor
open Go.RowKit

/-- append onto a slice that the call itself made: the new slice lies where the old one lay, or in a new block. -/
theorem run_append_own2 {P : Program} (w : World) (base : Nat) (t ty e : TypeId) (i : TypeInfo) (z : Value) (size bytes : Nat) (ht : P.underlying t = some (.slice e)) (hi : P.info? e = some i) (hz : i.zero = some z)
    (hsize : i.size = size) (hby : i.bytes = bytes) (hzs : z.cells.size = size) (hsz : 0 < size)
    (v : Value) (n : Nat) (xs : List Value) (hown : w.ownsRow base e size v n xs)
    (a : Addr) (m c : Nat) (news : List Value) (hl : news.length = m * size) (hnews : ∀ j u, news[j]? = some u → w.cell? (a.add j) = some u) (h1 : ∀ u ∈ news, u.oneCell' = true)
    (h63 : n + m ≤ maxLen) (hbytes : (n + m) * bytes ≤ 140737488355328) (hbase : base ≤ w.heap.size) :
    ∃ v' w', (Builtin.append_ #[t, t] ty #[v, .slice (some a) m c]).run P w = .ok v' w' ∧ w'.ownsRow base e size v' (n + m) (xs ++ news) ∧ w.grownBy w' v.ownBlock ∧
      (∀ k, v'.ownBlock = some k → v.ownBlock = some k ∨ w.heap.size ≤ k) := by
  rcases hown.2 with ⟨rfl, rfl⟩ | ⟨g, cap, cur, rfl, hbg, hh, hrest⟩
  · obtain rfl : xs = [] := List.eq_nil_of_length_eq_zero (by simpa using hown.1)
    obtain ⟨v', w', hr, h2, h3, _⟩ := run_append_own (P := P) w w.heap.size t ty e i z size bytes ht hi hz hsize hby hzs hsz (.slice none 0 0) 0 [] (World.ownsRow_nil w _ e size) a m c news hl hnews h1 h63 hbytes (Nat.le_refl _)
    exact ⟨v', w', hr, own_mono h2 hbase, h3, fun k hk => Or.inr (h2.lt k hk).1⟩
  · by_cases hroom : n + m ≤ cap
    · obtain ⟨w', hr, h2, h3⟩ := run_append_fits (P := P) w base t ty e i size ht hi hsize g n cap xs hown a m c news hl hnews h1 hroom
      exact ⟨_, w', hr, h2, h3, fun k hk => Or.inl hk⟩
    · obtain ⟨v', w', hr, h2, h3⟩ := run_append_arg_grows (P := P) w t ty e i z size bytes ht hi hz hsize hby hzs hsz ⟨g, 0, none⟩ n cap xs hown.1 (hown.cells rfl) a m c news hl hnews (by omega) h63 hbytes
      exact ⟨v', w', hr, own_mono h2 hbase, ⟨h3.os, h3.tape, h3.output, h3.size, fun k hk _ => h3.block k hk (by simp)⟩, fun k hk => Or.inr (h2.lt k hk).1⟩

theorem wpList_append_own2 {P : Program} (w : World) {ops : Array Oper} {rest : List Oper} {o : Oper} {a : Act} {Q : Exit → Act → World → Prop} (hgd : o.guard = none) (s x : Operand) (t : TypeId)
    (ho : o.op = .call { callee := .builtin .append, args := #[s, x], argTypes := #[t, t] })
    (base : Nat) (e : TypeId) (i : TypeInfo) (z : Value) (size bytes : Nat) (ht : P.underlying t = some (.slice e)) (hi : P.info? e = some i) (hz : i.zero = some z)
    (hsize : i.size = size) (hby : i.bytes = bytes) (hzs : z.cells.size = size) (hsz : 0 < size)
    (v : Value) (n : Nat) (xs : List Value) (hs : a.eval s = v) (hown : w.ownsRow base e size v n xs)
    (ad : Addr) (m c : Nat) (news : List Value) (hx : a.eval x = .slice (some ad) m c) (hl : news.length = m * size) (hnews : ∀ j u, news[j]? = some u → w.cell? (ad.add j) = some u) (h1 : ∀ u ∈ news, u.oneCell' = true)
    (h63 : n + m ≤ maxLen) (hbytes : (n + m) * bytes ≤ 140737488355328) (hbase : base ≤ w.heap.size)
    (h : ∀ v' w', w'.ownsRow base e size v' (n + m) (xs ++ news) → w.grownBy w' v.ownBlock → (∀ k, v'.ownBlock = some k → v.ownBlock = some k ∨ w.heap.size ≤ k) → wpList P ops Q rest (a.put o.dst v') w') : wpList P ops Q (o :: rest) a w := by
  refine wpList_plain hgd fun _ hK => ?_
  obtain ⟨v', w', hr, h2, h3, h4⟩ := run_append_own2 (P := P) w base t o.type e i z size bytes ht hi hz hsize hby hzs hsz v n xs hown ad m c news hl hnews h1 h63 hbytes hbase
  unfold Oper.wp execOp
  simp only [ho, resolve, invoke, builtin, Sem.run_bind, Sem.run_pure, Result.andThen_ok, List.map_toArray, List.map_cons, List.map_nil, hs, hx, hr]
  exact hK _ _ (h v' w' h2 h3 h4)

namespace Hx
/-- A step with its plate and its number. -/
structure Lst where
  pl : Nat
  no : Nat
  x : Stp

def lab (i : Nat) (p : List Stp) : List Lst := p.mapIdx fun j x => ⟨i, j, x⟩
def labs (ps : List (List Stp)) : List Lst := (ps.mapIdx lab).flatten
theorem lab_nil (i : Nat) : lab i [] = [] := rfl
theorem labs_nil : labs [] = [] := rfl
theorem lab_snoc (i : Nat) (p : List Stp) (x : Stp) : lab i (p ++ [x]) = lab i p ++ [⟨i, p.length, x⟩] := by simp [lab, List.mapIdx_append]
theorem labs_snoc (ps : List (List Stp)) (p : List Stp) : labs (ps ++ [p]) = labs ps ++ lab ps.length p := by simp [labs, List.mapIdx_append]
theorem lab_x (i : Nat) (p : List Stp) : (lab i p).map (·.x) = p := by
  apply List.ext_getElem?
  intro n
  simp [lab, List.getElem?_mapIdx]
  cases p[n]? <;> rfl
theorem labs_append (ps qs : List (List Stp)) : (labs (ps ++ qs)).map (·.x) = (labs ps).map (·.x) ++ qs.flatten := by
  induction qs generalizing ps with
  | nil => simp
  | cons q r ih =>
    have e : ps ++ q :: r = (ps ++ [q]) ++ r := by simp
    rw [e, ih, labs_snoc, List.map_append, lab_x, List.flatten_cons, List.append_assoc]
theorem labs_x (ps : List (List Stp)) : (labs ps).map (·.x) = ps.flatten := by
  have := labs_append [] ps
  simpa [labs_nil] using this
theorem labs_len (ps : List (List Stp)) : (labs ps).length = ps.flatten.length := by rw [← labs_x, List.length_map]

theorem numF_good {s : ByteArray} {m : Nat} {st : St} (hm : 1 ≤ m) (h : (numF s m st).2.bad = false) : st.bad = false ∧ st.pos + 1 ≤ (numF s m st).2.pos := by
  obtain ⟨pos, bad⟩ := st
  cases bad
  · refine ⟨rfl, ?_⟩
    by_cases h0 : byteAt s pos = 48
    · rw [numF_zero rfl h0]; exact Nat.le_refl _
    · by_cases h1 : 49 ≤ byteAt s pos ∧ byteAt s pos ≤ 57
      · rw [numF_dig rfl h1]
        obtain ⟨k, rfl⟩ : ∃ k, m = k + 1 := ⟨m - 1, by omega⟩
        show pos + 1 ≤ (digF s (k + 1) pos 0).2
        rw [digF_step (by omega)]
        exact digF_ge s k (pos + 1) _
      · rw [numF_no rfl (by simp only; omega)] at h
        cases h
  · rw [numF_bad rfl] at h; cases h
theorem boundsF_good {s : ByteArray} {st : St} (h : (boundsF s st).2.bad = false) : st.bad = false ∧ st.pos + 3 ≤ (boundsF s st).2.pos := by
  have h3 := numF_good (s := s) (m := 3) (by omega) h
  obtain ⟨b2, _, e2⟩ := takeF_good h3.1
  have h1 := numF_good (s := s) (m := 3) (by omega) b2
  refine ⟨h1.1, ?_⟩
  have h4 := h3.2
  rw [e2] at h4
  have h5 := h1.2
  show st.pos + 3 ≤ (numF s 3 (takeF s 45 (numF s 3 st).2)).2.pos
  rw [e2]
  simp only at h4
  omega
theorem openF_good {s : ByteArray} {n : Nat} {st : St} (h : (openF s n st).bad = false) : st.bad = false ∧ st.pos + 3 ≤ (openF s n st).pos := by
  obtain ⟨b2, _, e2⟩ := takeF_good h
  have e3 : openF s n st = ⟨(letterF s n (takeF s 59 st)).pos + 1, false⟩ := e2
  by_cases h26 : n < 26
  · have el : letterF s n (takeF s 59 st) = takeF s (97 + n) (takeF s 59 st) := by rw [letterF, if_pos h26]
    rw [el] at b2 e3
    obtain ⟨b1, _, e1⟩ := takeF_good b2
    obtain ⟨b0, _, e0⟩ := takeF_good b1
    refine ⟨b0, ?_⟩
    rw [e3, e1, e0]
    show st.pos + 3 ≤ st.pos + 1 + 1 + 1
    omega
  · rw [letterF, if_neg h26] at b2
    cases b2
theorem plateF_six {s : ByteArray} {n : Nat} {st : St} (h : (plateF s n st).1.bad = false) : st.bad = false ∧ st.pos + 6 ≤ (plateF s n st).1.pos := by
  have hb : (boundsF s (openF s n st)).2.bad = false := by
    cases hb : (boundsF s (openF s n st)).2.bad
    · rfl
    · unfold plateF at h; rw [afterF_bad hb] at h; simp only at h; rw [hb] at h; cases h
  have h1 := boundsF_good hb
  have h2 := openF_good h1.1
  have h3 : (boundsF s (openF s n st)).2.pos ≤ (plateF s n st).1.pos := afterF_ge s _ _
  exact ⟨h2.1, by omega⟩
end Hx

/-- A step of the document's plan: ten cells. -/
def lstCells (y : Hx.Lst) : List Value := [.int .i64 (y.pl : Int), .int .i64 (y.no : Int), .int .i64 (y.x.lo : Int), .int .i64 (y.x.hi : Int), .bool y.x.rest, .int .i64 (y.x.mn : Int), .int .i64 (y.x.mx : Int), .int .i64 0, .int .i64 0, .int .i64 0]
def lstsCells (l : List Hx.Lst) : List Value := l.flatMap lstCells
theorem lstsCells_snoc (l : List Hx.Lst) (y : Hx.Lst) : lstsCells (l ++ [y]) = lstsCells l ++ lstCells y := by simp [lstsCells]
theorem lstCells_one (y : Hx.Lst) : ∀ u ∈ lstCells y, u.oneCell' = true := by
  intro u hu
  simp [lstCells] at hu
  rcases hu with rfl | rfl | rfl | rfl | rfl | rfl | rfl | rfl <;> rfl

theorem Tryz.info53 : (Tryz.prog.info? 53).map (fun i => (i.zero, i.size, i.bytes)) = some (some (.agg #[.int .i64 0, .int .i64 0, .int .i64 0, .int .i64 0, .bool false, .int .i64 0, .int .i64 0, .int .i64 0, .int .i64 0, .int .i64 0]), 10, 80) := by kernel_rfl

end Go.Proofs.YtppcnlkhdgmaiaaGreatDoor
