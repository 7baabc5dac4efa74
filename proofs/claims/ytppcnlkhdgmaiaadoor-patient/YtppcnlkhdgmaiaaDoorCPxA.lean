/- What bestTimetable does with the budget 0; lowestFree. Plain mathematics of writing a timetable: the lowest free place; what is written of a step. The plain mathematics of a right protocol: what is known of its plates. What Plan answers. Plain mathematics of writing a timetable: step by step; how long it is; where the plates stay. The program's Itoa, as it is used here. -/
import Derived.Test.YtppcnlkhdgmaiaaDoorCPlQ
import Derived.Test.YtppcnlkhdgmaiaaDoorCRmF
import Derived.Test.YtppcnlkhdgmaiaaDoorCPlU
namespace Go.Proofs.YtppcnlkhdgmaiaaDoor
open Go.RowKit

set_option maxRecDepth 100000 in
set_option maxHeartbeats 4000000 in
theorem best_zero (J K D : Nat) (ao : Option Addr) (l c : Nat) (w : World) :
    Calls Tryd.prog 34 #[.agg #[.int .i64 (J : Int), .int .i64 (K : Int), .int .i64 (D : Int), .slice ao l c], .int .i64 0] w fun e w' => e = .returned (.tuple #[.agg #[.slice none 0 0, .slice none 0 0, .int .i64 0], .bool false, .bool true]) ∧ Below w.heap.size w w' := by
  have HB := hide (belA (.cells #[.bool true] 4) (belA (.cells #[.bool false] 4) (belA (.cells #[.slice none 0 0, .slice none 0 0, .int .i64 0] 89) (belA (.cells #[.int .i64 (J : Int), .int .i64 (K : Int), .int .i64 (D : Int), .slice ao l c] 75) (Below.refl w.heap.size w)))))
  go_enter Tryd.func34, Tryd.ntmps34
  go_wp2_with fail
  refine bodyPost_ret (v := .tuple #[.agg #[.slice none 0 0, .slice none 0 0, .int .i64 0], .bool false, .bool true]) (by simp [results, Tryd.results34, go_sem]) rfl ?_
  exact ⟨rfl, unhide HB⟩

end Go.Proofs.YtppcnlkhdgmaiaaDoor
namespace Go.Proofs.YtppcnlkhdgmaiaaDoor
open Go.RowKit

theorem Hx.filter_or {α : Type} (p q : α → Bool) (l : List α) : (l.filter (fun x => p x || q x)).length ≤ (l.filter p).length + (l.filter q).length := by
  induction l with
  | nil => simp
  | cons a l ih =>
    simp only [List.filter_cons]
    cases p a <;> cases q a <;> simp <;> omega
theorem Hx.filter_eq_le (z : Int) (N : Nat) : ((List.range N).filter (fun k : Nat => (k : Int) == z)).length ≤ 1 := by
  induction N with
  | zero => simp
  | succ N ihN =>
    rw [List.range_succ, List.filter_append, List.length_append]
    by_cases e : ((N : Int) == z) = true
    · have : (List.range N).filter (fun k : Nat => (k : Int) == z) = [] := by
        rw [List.filter_eq_nil_iff]
        intro k hk hz
        have := List.mem_range.1 hk
        simp at e hz
        omega
      rw [this, List.length_nil, Nat.zero_add]
      exact List.length_filter_le _ _
    · have : [N].filter (fun k : Nat => (k : Int) == z) = [] := by
        rw [List.filter_eq_nil_iff]
        intro k hk hz
        rw [List.mem_singleton.1 hk] at hz
        exact e hz
      rw [this, List.length_nil, Nat.add_zero]
      exact ihN
/-- How many of the first N numbers are in a list: no more than it is long. -/
theorem Hx.inN_le (zs : List Int) (N : Nat) : ((List.range N).filter (fun k : Nat => zs.contains (k : Int))).length ≤ zs.length := by
  induction zs with
  | nil => simp
  | cons z zs ih =>
    have h1 := Hx.filter_or (fun k : Nat => (k : Int) == z) (fun k : Nat => zs.contains (k : Int)) (List.range N)
    have h2 := Hx.filter_eq_le z N
    have e : (fun k : Nat => (z :: zs).contains (k : Int)) = (fun k : Nat => (k : Int) == z || zs.contains (k : Int)) := by
      funext k; rw [List.contains_cons]
    rw [e, List.length_cons]
    omega

def Hx.freeF (zs : List Int) : Nat → Nat → Nat
  | 0, k => k
  | f + 1, k => if zs.contains (k : Int) then freeF zs f (k + 1) else k

theorem Hx.freeF_spec (zs : List Int) : ∀ f k, (∀ j : Nat, j < k → zs.contains (j : Int) = true) → (∀ j : Nat, j < Hx.freeF zs f k → zs.contains (j : Int) = true) ∧ (Hx.freeF zs f k = k + f ∨ zs.contains (Hx.freeF zs f k : Int) = false) ∧ Hx.freeF zs f k ≤ k + f := by
  intro f
  induction f with
  | zero => intro k h; exact ⟨h, Or.inl rfl, Nat.le_refl _⟩
  | succ f ih =>
    intro k h
    unfold freeF
    by_cases e : zs.contains (k : Int) = true
    · rw [if_pos e]
      obtain ⟨a, b, c⟩ := ih (k + 1) (fun j hj => by
        by_cases hk : j = k
        · subst hk; exact e
        · exact h j (by omega))
      exact ⟨a, b.imp (fun x => by omega) id, by omega⟩
    · rw [if_neg e]
      exact ⟨h, Or.inr (by simpa using e), by omega⟩

/-- The lowest number that is not in the list. -/
def Hx.lowF (zs : List Int) : Nat := Hx.freeF zs (zs.length + 1) 0

theorem Hx.lowF_spec (zs : List Int) : (∀ j : Nat, j < Hx.lowF zs → zs.contains (j : Int) = true) ∧ zs.contains (Hx.lowF zs : Int) = false ∧ Hx.lowF zs ≤ zs.length := by
  obtain ⟨a, b, c⟩ := Hx.freeF_spec zs (zs.length + 1) 0 (fun j hj => absurd hj (Nat.not_lt_zero _))
  change (∀ j : Nat, j < Hx.lowF zs → zs.contains (j : Int) = true) at a
  change Hx.lowF zs = _ ∨ zs.contains (Hx.lowF zs : Int) = false at b
  have key : Hx.lowF zs ≤ zs.length := by
    have h := Hx.inN_le zs (Hx.lowF zs)
    rw [List.filter_eq_self.2 (fun k hk => a k (List.mem_range.1 hk)), List.length_range] at h
    exact h
  refine ⟨a, ?_, key⟩
  rcases b with b | b
  · exact absurd b (by show ¬ Hx.lowF zs = _; omega)
  · exact b

/-- Bounds as they are written. -/
def Hx.bndB (lo hi : Nat) : List UInt8 := Lib.itoa lo ++ [45] ++ Lib.itoa hi

/-- What is written of a step ahead of its rests; of the rest that ends; of the rest that begins. -/
def Hx.wHead (t : Hx.Trn) (T : Int) : List UInt8 := [59] ++ (Hx.nameB t.pl t.no).data.toList ++ [64] ++ Lib.itoa T ++ [43] ++ Hx.bndB t.x.lo t.x.hi
def Hx.wOut (t : Hx.Trn) (st : List Int) : List UInt8 := if t.x.rest then [60] ++ Lib.itoa (st.getD t.pl 0) ++ [58] ++ Hx.bndB t.x.mn t.x.mx else []
def Hx.sOut (t : Hx.Trn) (st : List Int) : List Int := if t.x.rest then st.set t.pl (-1) else st
def Hx.wIn (t : Hx.Trn) (st : List Int) : List UInt8 := if t.beg then [62] ++ Lib.itoa (Hx.lowF st) else []
def Hx.sIn (t : Hx.Trn) (st : List Int) : List Int := if t.beg then st.set t.pl (Hx.lowF st : Int) else st

/-- What is written from a place of the order on, with the places as they are. -/
def Hx.wAll : List (Hx.Trn × Int) → List Int → List UInt8
  | [], _ => []
  | (t, T) :: l, st => Hx.wHead t T ++ Hx.wOut t st ++ Hx.wIn t (Hx.sOut t st) ++ Hx.wAll l (Hx.sIn t (Hx.sOut t st))

/-- What is written of a timetable. -/
def Hx.writeF (J n : Nat) (l : List (Hx.Trn × Int)) : List UInt8 := [106] ++ Lib.itoa J ++ Hx.wAll l (List.replicate n (-1))

theorem low_at (b n c : Nat) (zs : List Int) (w : World) (hz : n = zs.length) (hbig : n ≤ 100000) (hc : ∀ j, j < zs.length → w.cell? ⟨b, 0 + j, none⟩ = some (.int .i64 (zs.getD j 0))) :
    Calls Tryd.prog 56 #[.slice (some ⟨b, 0, none⟩) n c] w fun e w' => e = .returned (.int .i64 (Hx.lowF zs : Int)) ∧ w' = w := by
  obtain ⟨h1, h2, h3⟩ := Hx.lowF_spec zs
  exact low_any b n c (Hx.lowF zs) zs w hz hbig hc (by omega) h1 h2

end Go.Proofs.YtppcnlkhdgmaiaaDoor
namespace Go.Proofs.YtppcnlkhdgmaiaaDoor
open Go.RowKit
namespace Hx

def SmS (x : Stp) : Prop := x.lo < 1000 ∧ x.hi < 1000 ∧ x.mn < 1000 ∧ x.mx < 1000
theorem afterF_app (s : ByteArray) (st : St) (acc : List Stp) : ∃ r, (afterF s st acc).2 = acc ++ r ∧ ∀ x ∈ r, SmS x := by
  induction st, acc using afterF.induct s with
  | case1 st acc h => rw [afterF_bad h]; exact ⟨[], by simp, fun _ h => by cases h⟩
  | case2 st acc h e r ih =>
    rw [afterF_comma (by simpa using h) e]
    obtain ⟨q, h1, h2⟩ := ih
    refine ⟨_ :: q, by rw [h1, List.append_assoc]; rfl, fun x hx => ?_⟩
    rcases List.mem_cons.1 hx with rfl | hx
    · exact ⟨boundsF_lo s _, boundsF_hi s _, (by decide : (0 : Nat) < 1000), (by decide : (0 : Nat) < 1000)⟩
    · exact h2 x hx
  | case3 st acc h e e2 r ih =>
    rw [afterF_rest (by simpa using h) e2]
    obtain ⟨q, h1, h2⟩ := ih
    refine ⟨_ :: q, by rw [h1, List.append_assoc]; rfl, fun x hx => ?_⟩
    rcases List.mem_cons.1 hx with rfl | hx
    · exact ⟨boundsF_lo s _, boundsF_hi s _, boundsF_lo s _, boundsF_hi s _⟩
    · exact h2 x hx
  | case4 st acc h e e2 => rw [afterF_stop e e2]; exact ⟨[], by simp, fun _ h => by cases h⟩
/-- A plate as it is read. -/
def PlOk (p : List Stp) : Prop := ∃ x r, p = x :: r ∧ x.rest = false ∧ ∀ y ∈ p, SmS y
theorem plateF_ok (s : ByteArray) (n : Nat) (st : St) : PlOk (plateF s n st).2 := by
  obtain ⟨r, h1, h2⟩ := afterF_app s (boundsF s (openF s n st)).2 [⟨(boundsF s (openF s n st)).1.lo, (boundsF s (openF s n st)).1.hi, false, 0, 0⟩]
  refine ⟨_, r, h1, rfl, fun y hy => ?_⟩
  unfold plateF at hy
  rw [h1] at hy
  rcases List.mem_cons.1 hy with rfl | hy
  · exact ⟨boundsF_lo s _, boundsF_hi s _, (by decide : (0 : Nat) < 1000), (by decide : (0 : Nat) < 1000)⟩
  · exact h2 y hy
theorem platesF_ok (s : ByteArray) (st : St) (acc : List (List Stp)) (h : ∀ p ∈ acc, PlOk p) : ∀ p ∈ (platesF s st acc).2, PlOk p := by
  induction st, acc using platesF.induct s with
  | case1 st acc hb => rw [platesF_bad hb]; exact h
  | case2 st acc hb he =>
    rw [platesF_end (by simpa using hb) he]
    intro p hp
    rcases List.mem_append.1 hp with hp | hp
    · exact h p hp
    · rw [List.mem_singleton.1 hp]; exact plateF_ok _ _ _
  | case3 st acc hb he ih =>
    rw [platesF_more (by simpa using hb) (by omega)]
    refine ih fun p hp => ?_
    rcases List.mem_append.1 hp with hp | hp
    · exact h p hp
    · rw [List.mem_singleton.1 hp]; exact plateF_ok _ _ _

/-- What is known of a right protocol. -/
structure GoodP (J K D : Nat) (ps : List (List Stp)) : Prop where
  fine : Fine ps
  small : Small ps
  right : ∀ q ∈ ps, ∀ x ∈ q, 1 ≤ x.lo ∧ x.lo ≤ x.hi ∧ (x.rest = true → 1 ≤ K ∧ x.mn ≤ x.mx)
  pos : 0 < ps.length
  le : ps.length ≤ 4
  five : ∀ q ∈ ps, q.length ≤ 5
  all : (labs ps).length ≤ 9
  j : J < 10
  k : K < 10
  d : D < 10000
theorem GoodP.goodC {J K D : Nat} {ps : List (List Stp)} (h : GoodP J K D ps) (v : Value) (b : Go.Proofs.YtppcnlkhdgmaiaaDoor.Bk) : GoodC ⟨J, K, D, v, ps, b⟩ :=
  ⟨h.fine, h.small, fun q hq x hx hr => ((h.right q hq x hx).2.2 hr).1, h.pos, h.le, h.all, h.j, h.k⟩

theorem good_prot {s : ByteArray} (h : (checkF s).1 = 0) : s.size ≤ 120 ∧ GoodP (headJ s).1 (headK s).1 (headD s).1 (protF s).2 := by
  unfold checkF at h
  split at h
  · cases h
  · split at h
    · cases h
    · rename_i h1 h2
      have hok : ∀ p ∈ (protF s).2, PlOk p := platesF_ok s _ [] (fun _ h => by cases h)
      have hpos := platesF_pos s (headD s).2 [] (by simpa [protF] using h2)
      unfold verdict at h
      split at h
      · cases h
      · rename_i hw
        split at h
        · cases h
        · rename_i hm
          simp only [manyB, Bool.not_eq_true, Bool.or_eq_false_iff, List.any_eq_false, decide_eq_true_eq, decide_eq_false_iff_not] at hm
          have hw' := List.findIdx?_eq_none_iff.1 hw
          refine ⟨by omega, ?_, ?_, ?_, hpos, by omega, fun q hq => by have := hm.1.1 q hq; omega, by rw [labs_len]; omega, numF_val s 1 _, numF_val s 1 _, numF_val s 4 _⟩
          · intro p q hq
            obtain ⟨x, r, e, hx, _⟩ := hok q (List.mem_of_getElem? hq)
            exact ⟨x, r, e, hx⟩
          · intro q hq x hx
            obtain ⟨_, _, _, _, hs⟩ := hok q hq
            exact hs x hx
          · intro q hq x hx
            have := hw' x (List.mem_flatten.2 ⟨q, hq, hx⟩)
            simp only [wrongB, Bool.or_eq_false_iff, Bool.and_eq_false_iff, decide_eq_false_iff_not, beq_eq_false_iff_ne] at this
            obtain ⟨⟨a, b⟩, c⟩ := this
            refine ⟨by omega, by omega, fun hr => ?_⟩
            rcases c with c | c
            · rw [hr] at c; cases c
            · omega

/-- Does Plan say that there are more orders? -/
def moreF (K : Nat) (ps : List (List Stp)) (N : Nat) : Bool := if N = 0 then true else lastB ((ordersF K ps).take N)
/-- An order and its times. -/
def pairs (o : List Trn) (f : Nat → Int) : List (Trn × Int) := o.mapIdx fun i t => (t, f i)
/-- What Plan answers of a protocol without a hopeless rest. -/
def planB (J K D : Nat) (ps : List (List Stp)) (N : Nat) : List UInt8 × Bool × Int :=
  match bestF J D ps (((ordersF K ps).take N).map (·.1)) with
  | some b => (writeF J ps.length (pairs (b.o.map (turnOfIdx ps)) b.f), !moreF K ps N, 0)
  | none => ([], false, if moreF K ps N then 8 else 7)
/-- P4: what Plan answers. -/
def planF (s : ByteArray) (N : Int) : List UInt8 × Bool × Int :=
  if (checkF s).1 ≠ 0 then ([], false, ((checkF s).1 : Int))
  else if N < 0 ∨ 1000 < N then ([], false, 5)
  else if (firstTight (headJ s).1 (labs (protF s).2)).isSome then ((nameB (tightT (headJ s).1 (protF s).2).pl (tightT (headJ s).1 (protF s).2).no).data.toList, false, 6)
  else planB (headJ s).1 (headK s).1 (headD s).1 (protF s).2 N.toNat

end Hx
end Go.Proofs.YtppcnlkhdgmaiaaDoor
namespace Go.Proofs.YtppcnlkhdgmaiaaDoor
open Go.RowKit

/-- Where the plates stay behind these steps. -/
def Hx.wSt : List (Hx.Trn × Int) → List Int → List Int
  | [], st => st
  | (t, _) :: l, st => Hx.wSt l (Hx.sIn t (Hx.sOut t st))
theorem Hx.wSt_snoc (l : List (Hx.Trn × Int)) (t : Hx.Trn) (T : Int) (st : List Int) : Hx.wSt (l ++ [(t, T)]) st = Hx.sIn t (Hx.sOut t (Hx.wSt l st)) := by
  induction l generalizing st with
  | nil => rfl
  | cons a l ih => obtain ⟨a, b⟩ := a; exact ih _
theorem Hx.wAll_snoc (l : List (Hx.Trn × Int)) (t : Hx.Trn) (T : Int) (st : List Int) : Hx.wAll (l ++ [(t, T)]) st = Hx.wAll l st ++ (Hx.wHead t T ++ Hx.wOut t (Hx.wSt l st) ++ Hx.wIn t (Hx.sOut t (Hx.wSt l st))) := by
  induction l generalizing st with
  | nil => simp [Hx.wAll, Hx.wSt]
  | cons a l ih =>
    obtain ⟨a, b⟩ := a
    simp only [List.cons_append, Hx.wAll, Hx.wSt, ih, List.append_assoc]
/-- Places are within bounds. -/
def Hx.StOk (n : Nat) (st : List Int) : Prop := st.length = n ∧ ∀ z ∈ st, -1 ≤ z ∧ z ≤ 1000
theorem Hx.StOk.set {n : Nat} {st : List Int} (h : Hx.StOk n st) (p : Nat) (z : Int) (hz : -1 ≤ z ∧ z ≤ 1000) : Hx.StOk n (st.set p z) := by
  refine ⟨by rw [List.length_set]; exact h.1, fun y hy => ?_⟩
  rcases List.mem_or_eq_of_mem_set hy with hy | rfl
  · exact h.2 y hy
  · exact hz
theorem Hx.StOk.out {n : Nat} {st : List Int} (h : Hx.StOk n st) (t : Hx.Trn) : Hx.StOk n (Hx.sOut t st) := by
  unfold Hx.sOut; split
  · exact h.set _ _ (by omega)
  · exact h
theorem Hx.StOk.in_ {n : Nat} {st : List Int} (hn : n ≤ 1000) (h : Hx.StOk n st) (t : Hx.Trn) : Hx.StOk n (Hx.sIn t st) := by
  unfold Hx.sIn; split
  · have := (Hx.lowF_spec st).2.2
    have := h.1
    exact h.set _ _ (by omega)
  · exact h
theorem Hx.StOk.all {n : Nat} (hn : n ≤ 1000) : ∀ (l : List (Hx.Trn × Int)) (st : List Int), Hx.StOk n st → Hx.StOk n (Hx.wSt l st)
  | [], _, h => h
  | (t, _) :: l, _, h => Hx.StOk.all hn l _ ((h.out t).in_ hn t)
theorem Hx.StOk.start (n : Nat) : Hx.StOk n (List.replicate n (-1)) := ⟨by simp, fun z hz => by rw [(List.mem_replicate.1 hz).2]; omega⟩
theorem Hx.StOk.at_ {n : Nat} {st : List Int} (h : Hx.StOk n st) (p : Nat) : -1 ≤ st.getD p 0 ∧ st.getD p 0 ≤ 1000 := by
  rw [List.getD_eq_getElem?_getD]
  cases hp : st[p]? with
  | none => simp
  | some z => exact h.2 z (List.mem_of_getElem? hp)

theorem itoa_le {z : Int} (h1 : -1 ≤ z) (h2 : z ≤ 200000000) : (Lib.itoa z).length ≤ 21 := Lib.itoa_length_le _ (by omega) (by omega)
theorem bndB_le {a b : Nat} (ha : a < 1000) (hb : b < 1000) : (Hx.bndB a b).length ≤ 43 := by
  have h1 := itoa_le (z := (a : Int)) (by omega) (by omega)
  have h2 := itoa_le (z := (b : Int)) (by omega) (by omega)
  simp only [Hx.bndB, List.length_append, List.length_cons, List.length_nil]; omega
/-- A step of a protocol whose numbers are small. -/
structure Hx.TSm (n : Nat) (t : Hx.Trn) : Prop where
  pl : t.pl < n
  pl26 : t.pl < 26
  no : t.no < 10
  lo : t.x.lo < 1000
  hi : t.x.hi < 1000
  mn : t.x.mn < 1000
  mx : t.x.mx < 1000
theorem wHead_le {n : Nat} {t : Hx.Trn} (h : Hx.TSm n t) {T : Int} (h1 : 0 ≤ T) (h2 : T ≤ 200000000) : (Hx.wHead t T).length ≤ 70 := by
  have a := itoa_le (z := T) (by omega) (by omega)
  have b := bndB_le h.lo h.hi
  have c : (Hx.nameB t.pl t.no).data.toList.length = 2 := rfl
  simp only [Hx.wHead, List.length_append, List.length_cons, List.length_nil, c]; omega
theorem wOut_le {n : Nat} {t : Hx.Trn} (h : Hx.TSm n t) {st : List Int} (hs : Hx.StOk n st) : (Hx.wOut t st).length ≤ 70 := by
  have a := hs.at_ t.pl
  have a := itoa_le (z := st.getD t.pl 0) (by omega) (by omega)
  have b := bndB_le h.mn h.mx
  unfold Hx.wOut
  split
  · simp only [List.length_append, List.length_cons, List.length_nil]; omega
  · simp
theorem wIn_le {n : Nat} {t : Hx.Trn} {st : List Int} (hn : n ≤ 1000) (hs : Hx.StOk n st) : (Hx.wIn t st).length ≤ 22 := by
  have := (Hx.lowF_spec st).2.2
  have := hs.1
  have a := itoa_le (z := (Hx.lowF st : Int)) (by omega) (by omega)
  unfold Hx.wIn
  split
  · simp only [List.length_append, List.length_cons, List.length_nil]; omega
  · simp
theorem wAll_le {n : Nat} (hn : n ≤ 1000) : ∀ (l : List (Hx.Trn × Int)) (st : List Int), Hx.StOk n st → (∀ p ∈ l, Hx.TSm n p.1 ∧ 0 ≤ p.2 ∧ p.2 ≤ 200000000) → (Hx.wAll l st).length ≤ 200 * l.length
  | [], _, _, _ => by simp [Hx.wAll]
  | (t, T) :: l, st, hs, h => by
    obtain ⟨h1, h2, h3⟩ : Hx.TSm n t ∧ 0 ≤ T ∧ T ≤ 200000000 := h (t, T) (by simp)
    have a := wHead_le h1 h2 h3
    have b := wOut_le h1 hs
    have c := wIn_le (t := t) hn (hs.out t)
    have d := wAll_le hn l _ ((hs.out t).in_ hn t) (fun p hp => h p (by simp [hp]))
    simp only [Hx.wAll, List.length_append, List.length_cons]; omega

theorem Hx.pairs_len (o : List Hx.Trn) (f : Nat → Int) : (Hx.pairs o f).length = o.length := by simp [Hx.pairs]
theorem Hx.pairs_at {o : List Hx.Trn} {f : Nat → Int} {i : Nat} {t : Hx.Trn} (h : o[i]? = some t) : (Hx.pairs o f)[i]? = some (t, f i) := by simp [Hx.pairs, h]
theorem Hx.pairs_mem {o : List Hx.Trn} {f : Nat → Int} {p : Hx.Trn × Int} (h : p ∈ Hx.pairs o f) : ∃ i : Nat, i < o.length ∧ p.1 ∈ o ∧ p.2 = f i := by
  obtain ⟨i, hi, e⟩ := List.mem_iff_getElem.1 h
  rw [Hx.pairs_len] at hi
  have : (Hx.pairs o f)[i]? = some p := by rw [List.getElem?_eq_getElem (by rw [Hx.pairs_len]; exact hi), e]
  rw [Hx.pairs_at (List.getElem?_eq_getElem hi)] at this
  cases this
  exact ⟨i, hi, List.getElem_mem _, rfl⟩

theorem itoa_any (z : Int) (h1 : -1000 ≤ z) (h2 : z ≤ 1000000000) (w : World) (ht : P10 w) :
    Calls Tryd.prog 53 #[.int .i64 z] w fun e w' => e = .returned (.string ⟨(Lib.itoa z).toArray⟩) ∧ Below w.heap.size w w' := by
  refine (Tryd.strconv_Itoa z (by omega) (by omega) w ht).mono ?_
  rintro e w' ⟨rfl, k, os, rfl⟩
  exact ⟨rfl, belG _ _ (Below.refl _ _)⟩

end Go.Proofs.YtppcnlkhdgmaiaaDoor
