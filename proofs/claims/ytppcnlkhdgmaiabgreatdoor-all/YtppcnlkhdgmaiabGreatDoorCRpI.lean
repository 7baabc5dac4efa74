/- The plain mathematics of what the document's Plan needs: whether there are more orders; times in the order's order; places where plates rest. No program is named here. What the document's Plan calls, as it is used there: Times against the program's rounds; End with greater times. The document's Write, at the best order. -/
import Derived.Test.YtppcnlkhdgmaiabGreatDoorCEqD
import Derived.Test.YtppcnlkhdgmaiabGreatDoorCPxA
import Derived.Test.YtppcnlkhdgmaiabGreatDoorCWrA
import Derived.Test.YtppcnlkhdgmaiabGreatDoorCEqC
namespace Go.Proofs.YtppcnlkhdgmaiabGreatDoor
namespace Hx

theorem labs_small {ps : List (List Stp)} (h : Small ps) : SmL (labs ps) := by
  intro y hy
  have h1 : y.x ∈ ps.flatten := by rw [← labs_x]; exact List.mem_map_of_mem hy
  obtain ⟨q, hq, hx⟩ := List.mem_flatten.1 h1
  exact h q hq y.x hx
theorem last_at {α : Type} {l : List α} {x : α} (h : l.getLast? = some x) : l[l.length - 1]? = some x := by rw [List.getLast?_eq_getElem?] at h; exact h
/-- Are there more orders than so many? -/
theorem more_is {J K D : Nat} {ps : List (List Stp)} (h : GoodP J K D ps) (N : Nat) : moreF K ps N = decide (N < (allO K (labs ps) (labs ps).length []).length) := by
  have hne : allO K (labs ps) (labs ps).length [] ≠ [] := allO_ne h.fine (fun q hq x hx hr => ((h.right q hq x hx).2.2 hr).1) _ [] 0 (fun _ => 0) rfl (by simp)
  obtain ⟨A, hA⟩ : ∃ A, A = allO K (labs ps) (labs ps).length [] := ⟨_, rfl⟩
  have hpos : 0 < A.length := by rw [hA]; exact List.length_pos_iff.2 hne
  unfold moreF ordersF
  rw [← hA]
  by_cases hN : N = 0
  · subst hN; rw [if_pos rfl]; simp [hpos]
  · rw [if_neg hN]
    unfold lastB
    have hl : ((flagL A 0).take N).length = min N A.length := by rw [List.length_take, flagL_len]
    cases hg : ((flagL A 0).take N).getLast? with
    | none =>
      have := List.getLast?_eq_none_iff.1 hg
      rw [this] at hl
      simp only [List.length_nil] at hl
      omega
    | some x =>
      have h1 := last_at hg
      rw [List.getElem?_take, hl] at h1
      split at h1
      · obtain ⟨o, b⟩ := x
        have := flagL_early A _ o b h1
        simp only
        rw [this]
        by_cases e : N < A.length
        · simp [e]; omega
        · simp [e]; omega
      · cases h1

theorem early_least {J : Nat} {o : List Trn} {f : Nat → Int} (h : earlyF J o = some f) : LeastL o.length (limsOf J o) f := by
  unfold earlyF at h
  exact roundsF_some (limsOf_in J o) _ _ _ (fun _ _ => Int.le_refl _) (fun s hs i hi => hs.1 i hi) h
theorem early_up {J : Nat} {o : List Trn} {f : Nat → Int} (h : earlyF J o = some f) {k : Nat} (hk : k + 1 < o.length) : f k ≤ f (k + 1) := by
  have hl := (early_least h).1.2
  have h1 : o[k + 1]? = some o[k + 1] := List.getElem?_eq_getElem hk
  have h0 : o[k]? = some o[k] := List.getElem?_eq_getElem (by omega)
  have := hl ⟨k, k + 1, (J : Int) + o[k].x.hi⟩ (List.mem_flatMap.2 ⟨k + 1, List.mem_range.2 hk, by
    unfold limAt
    rw [h1]
    refine List.mem_append.2 (Or.inl ?_)
    unfold lim1
    rw [if_pos (by omega), show k + 1 - 1 = k by omega, h0]
    simp⟩)
  simp only at this
  omega
theorem early_mono {J : Nat} {o : List Trn} {f : Nat → Int} (h : earlyF J o = some f) : ∀ d k, k + d < o.length → f k ≤ f (k + d)
  | 0, k, _ => Int.le_refl _
  | d + 1, k, hk => Int.le_trans (early_mono h d k (by omega)) (early_up h (k := k + d) (by omega))

/-- Where the plates stay behind these steps. -/
def wStT : List Trn → List Int → List Int
  | [], st => st
  | t :: l, st => wStT l (sIn t (sOut t st))
theorem wStT_snoc (l : List Trn) (t : Trn) (st : List Int) : wStT (l ++ [t]) st = sIn t (sOut t (wStT l st)) := by
  induction l generalizing st with
  | nil => rfl
  | cons a l ih => exact ih _
theorem wSt_T : ∀ (l : List (Trn × Int)) (st : List Int), wSt l st = wStT (l.map (·.1)) st
  | [], _ => rfl
  | (_, _) :: l, _ => wSt_T l _
theorem getD_set' {st : List Int} {p q : Nat} {z d : Int} : (st.set p z).getD q d = if p = q ∧ p < st.length then z else st.getD q d := by
  rw [List.getD_eq_getElem?_getD, List.getElem?_set, List.getD_eq_getElem?_getD]
  by_cases e : p = q
  · subst e
    by_cases h : p < st.length
    · simp [h]
    · simp [h]
  · simp [e]
theorem st_len (t : Trn) (st : List Int) : (sIn t (sOut t st)).length = st.length := by
  unfold sIn sOut
  split <;> split <;> simp
theorem st_other {t : Trn} {st : List Int} {a : Nat} (h : a ≠ t.pl) : (sIn t (sOut t st)).getD a 0 = st.getD a 0 := by
  unfold sIn sOut
  have h' : ¬ t.pl = a := fun e => h e.symm
  split <;> split <;> simp only [getD_set', h', false_and, if_false]
theorem st_here {t : Trn} {st : List Int} (hb : t.beg = true) (hl : t.pl < st.length) : 0 ≤ (sIn t (sOut t st)).getD t.pl 0 := by
  unfold sIn
  rw [if_pos hb, getD_set', if_pos ⟨rfl, by unfold sOut; split <;> simp [hl]⟩]
  omega

theorem rest_st {K : Nat} {ps : List (List Stp)} (hf : Fine ps) : ∀ (l : List Nat) (r : Int) (nx : Nat → Nat), endS K (labs ps) l 0 (fun _ => 0) = some (r, nx) →
    (wStT (l.map (turnOfIdx ps)) (List.replicate ps.length (-1))).length = ps.length ∧ ∀ p, p < ps.length → under ps nx p = true → 0 ≤ (wStT (l.map (turnOfIdx ps)) (List.replicate ps.length (-1))).getD p 0 := by
  refine snoc_ind ?_ ?_
  · intro r nx h
    simp [endS] at h
    obtain ⟨_, rfl⟩ := h
    refine ⟨by simp [wStT], fun p hp hu => ?_⟩
    exfalso
    have hq : ps[p]? = some (ps.getD p []) := by rw [List.getD_eq_getElem?_getD, List.getElem?_eq_getElem (by omega)]; rfl
    obtain ⟨x, r, e, hx⟩ := hf _ _ hq
    have : turnAt ps p 0 = some ⟨x, p, 0, begB (x :: r) 0⟩ := by rw [e] at hq; simp only [turnAt, hq]; rfl
    simp [under, this, hx] at hu
  · intro l i ih r nx h
    rw [endS_snoc] at h
    cases he : endS K (labs ps) l 0 (fun _ => 0) with
    | none => rw [he] at h; cases h
    | some st =>
      rw [he] at h
      simp only [Option.bind_some] at h
      obtain ⟨p, q, x, hq, hx, rfl, e⟩ := fit_next hf h
      simp only at e
      subst e
      obtain ⟨i1, i2⟩ := ih st.1 st.2 he
      have hp := getElem?_lt hq
      have hn := getElem?_lt hx
      rw [List.map_append, List.map_cons, List.map_nil, wStT_snoc, turn_pl hq hx, restAfter_at hf hq hn]
      have ht : turnAt ps p (st.2 p) = some ⟨x, p, st.2 p, begB q (st.2 p)⟩ := by simp [turnAt, hq, hx]
      obtain ⟨u1, u2⟩ := under_bump ht
      refine ⟨by rw [st_len]; exact i1, fun a ha hu => ?_⟩
      by_cases e : a = p
      · subst e
        rw [u2] at hu
        exact st_here hu (by rw [i1]; exact ha)
      · rw [st_other e]
        refine i2 a ha ?_
        have hba : bump st.2 p a = st.2 a := by simp [bump, e]
        have hu2 : under ps (bump st.2 p) a = under ps st.2 a := by unfold under; rw [hba]
        rw [← hu2]; exact hu
theorem order_rest {K : Nat} {ps : List (List Stp)} (hf : Fine ps) {o : List Nat} (h : o ∈ allO K (labs ps) (labs ps).length []) {k i : Nat} {y : Lst} (hk : o[k]? = some i) (hy : (labs ps)[i]? = some y) (hr : y.x.rest = true) :
    0 ≤ (wStT ((o.take k).map (turnOfIdx ps)) (List.replicate ps.length (-1))).getD y.pl 0 := by
  have hend := allO_end _ _ o (by rfl) h
  obtain ⟨⟨r1, nx1⟩, he1⟩ := Option.isSome_iff_exists.1 (end_take o hend k)
  have ht2 := end_take o hend (k + 1)
  rw [List.take_add_one, hk, Option.toList_some, endS_snoc, he1] at ht2
  simp only [Option.bind_some] at ht2
  obtain ⟨st, hst⟩ := Option.isSome_iff_exists.1 ht2
  obtain ⟨p, q, x, hq, hx, rfl, _⟩ := fit_next hf hst
  rw [labs_at hq hx] at hy
  cases hy
  simp only at hr ⊢
  refine (rest_st hf _ r1 nx1 he1).2 p (getElem?_lt hq) ?_
  have ht : turnAt ps p (nx1 p) = some ⟨x, p, nx1 p, begB q (nx1 p)⟩ := by simp [turnAt, hq, hx]
  simp [under, ht, hr]

end Hx
end Go.Proofs.YtppcnlkhdgmaiabGreatDoor
namespace Go.Proofs.YtppcnlkhdgmaiabGreatDoor
open Go.RowKit

set_option maxRecDepth 100000 in
set_option maxHeartbeats 4000000 in
theorem end_big (J : Nat) (x1 x2 x4 : Int) (sg scap Ln og on ocap tg tn tcap x hi : Nat) (tx : Int) (w : World) (hsg : sg < w.heap.size) (hog : og < w.heap.size) (htg : tg < w.heap.size)
    (hon : 0 < on) (hon2 : on ≤ 1000) (hxL : x < Ln) (hxt : x < tn)
    (co : w.cell? ⟨og, on - 1, none⟩ = some (.int .i64 (x : Int))) (ct : w.cell? ⟨tg, x, none⟩ = some (.int .i64 tx)) (cs : w.cell? ⟨sg, x * 10 + 3, none⟩ = some (.int .i64 (hi : Int)))
    (hJ : J ≤ 1000) (hhi : hi ≤ 1000) (htx : 0 ≤ tx) (htx2 : tx ≤ 1000000000) (ev : Int) (hev : ev = tx + J + hi) :
    Calls Tryz.prog 24 #[.agg #[.int .i64 (J : Int), .int .i64 x1, .int .i64 x2, .slice (some ⟨sg, 0, none⟩) Ln scap, .int .i64 x4], .slice (some ⟨og, 0, none⟩) on ocap, .slice (some ⟨tg, 0, none⟩) tn tcap] w fun e w' => e = .returned (.int .i64 ev) ∧ Below w.heap.size w w' := by
  subst hev
  go_enter Tryz.func24, Tryz.ntmps24
  obtain ⟨m, rfl⟩ : ∃ m, on = m + 1 := ⟨on - 1, by omega⟩
  rw [show m + 1 - 1 = m by omega] at co
  go_wp2_with fail
  have hbox := blk_new w #[.int .i64 (J : Int), .int .i64 x1, .int .i64 x2, .slice (some ⟨sg, 0, none⟩) Ln scap, .int .i64 x4] 49
  have hbe : Below w.heap.size w (w.alloc (.cells #[.int .i64 (J : Int), .int .i64 x1, .int .i64 x2, .slice (some ⟨sg, 0, none⟩) Ln scap, .int .i64 x4] 49)) := (Below.refl _ _).alloc (Nat.le_refl _) _
  generalize w.alloc (.cells #[.int .i64 (J : Int), .int .i64 x1, .int .i64 x2, .slice (some ⟨sg, 0, none⟩) Ln scap, .int .i64 x4] 49) = w1 at *
  have p0 : w1.cell? ⟨w.heap.size, 0, none⟩ = some (.int .i64 (J : Int)) := blk_cell hbox 0
  have p3 : w1.cell? ⟨w.heap.size, 3, none⟩ = some (.slice (some ⟨sg, 0, none⟩) Ln scap) := blk_cell hbox 3
  have ct1 : w1.cell? ⟨tg, x, none⟩ = some (.int .i64 tx) := by rw [hbe.cell (p := ⟨tg, x, none⟩) htg]; exact ct
  have cs1 : w1.cell? ⟨sg, x * 10 + 3, none⟩ = some (.int .i64 (hi : Int)) := by rw [hbe.cell (p := ⟨sg, x * 10 + 3, none⟩) hsg]; exact cs
  have HBE := hide hbe
  clear hbe hbox ct cs co
  have g1 : (x : Int) < (Ln : Int) := by omega
  have g2 : (x : Int) < (tn : Int) := by omega
  go_quiet (fail)
  go_wp2_with fail
  go_returns
  exact ⟨by go_num, (unhide HBE).grown (grown_drewN _ _ none) (unhide HBE).size (by simp)⟩

/-- The times that Times tells of an order. -/
def Hx.tmF (J : Nat) (L : List Hx.Lst) (o : List Nat) (j : Nat) : Int := Hx.fwI (Hx.tabM J L o) (L.length + 1) L.length j
/-- What Times answers, held against the program's rounds. -/
def TmR (J : Nat) (ps : List (List Hx.Stp)) (o : List Nat) (tv : Value) (ok : Bool) (w' : World) : Prop :=
  (ok = false ∧ tv = .slice none 0 0 ∧ Hx.earlyF J (o.map (Hx.turnOfIdx ps)) = none) ∨
  (ok = true ∧ ∃ gt f, tv = .slice (some ⟨gt, 0, none⟩) (Hx.labs ps).length ((Hx.labs ps).length + 1) ∧ Hx.earlyF J (o.map (Hx.turnOfIdx ps)) = some f ∧ gt < w'.heap.size ∧
    (∀ j, j < (Hx.labs ps).length → w'.cell? ⟨gt, j, none⟩ = some (.int .i64 (Hx.tmF J (Hx.labs ps) o j)) ∧ 0 ≤ Hx.tmF J (Hx.labs ps) o j ∧ Hx.tmF J (Hx.labs ps) o j ≤ 10000000) ∧
    ∀ k, k < (Hx.labs ps).length → Hx.tmF J (Hx.labs ps) o (o.getD k 0) = f k)
theorem TmR.below {J ps o tv ok w w'} (hb : Below w.heap.size w w') (h : TmR J ps o tv ok w) : TmR J ps o tv ok w' := by
  rcases h with h | ⟨h1, gt, f, h2, h3, h4, h5, h6⟩
  · exact Or.inl h
  · exact Or.inr ⟨h1, gt, f, h2, h3, Nat.lt_of_lt_of_le h4 hb.size, fun j hj => ⟨cBel hb (h5 j hj).1, (h5 j hj).2⟩, h6⟩
theorem TmR.drewN {J ps o tv ok w} (n : Nat) (h : TmR J ps o tv ok w) : TmR J ps o tv ok (w.drewN n) := h.below (below_drewN (Below.refl _ _) n)

theorem rtimes_any {J K D : Nat} {ps : List (List Hx.Stp)} (hg : Hx.GoodP J K D ps) (pl : Int) (sv ov : Value) (o : List Nat) (w : World) (hS : Stps w sv (Hx.labs ps)) (ho : w.ownsRow 0 3 1 ov o.length (ints (nats o))) (hord : Hx.Ord ps o) :
    Calls Tryz.prog 23 #[.agg #[.int .i64 (J : Int), .int .i64 (K : Int), .int .i64 (D : Int), sv, .int .i64 pl], ov] w fun e w' => ∃ tv ok, e = .returned (.tuple #[tv, .bool ok]) ∧ Below w.heap.size w w' ∧ TmR J ps o tv ok w' := by
  have hsm := Hx.labs_small hg.small
  obtain ⟨f1, f2, f3, f4⟩ := Hx.tab_facts hord hS.pos hg.j hsm
  obtain ⟨q1, q2⟩ := Hx.early_eq hord hS.pos hg.all hg.j hsm
  refine (times_any J K D pl sv ov (Hx.labs ps) o w hS ho hord.len hord.lt hg.all hg.j hsm f1 f2).mono ?_
  rintro e w' ⟨hb, ⟨⟨k, i, hk, hi, hpos⟩, rfl⟩ | ⟨hok, gt, rfl, hgt, hc⟩⟩
  · refine ⟨_, _, rfl, hb, Or.inl ⟨rfl, rfl, ?_⟩⟩
    cases he : Hx.earlyF J (o.map (Hx.turnOfIdx ps)) with
    | none => rfl
    | some f =>
      have := (q1 f he).1 k i hk hi
      omega
  · cases he : Hx.earlyF J (o.map (Hx.turnOfIdx ps)) with
    | none =>
      obtain ⟨k, i, hk, hi, hp⟩ := q2 he
      have := hok k i hk hi
      omega
    | some f =>
      refine ⟨_, _, rfl, hb, Or.inr ⟨rfl, gt, f, rfl, he, hgt, fun j hj => ⟨hc j hj, ?_, ?_⟩, (q1 f he).2⟩⟩
      · have := Hx.fwI_ge (Hx.tabM J (Hx.labs ps) o) ((Hx.labs ps).length + 1) (Hx.labs ps).length j
        rw [f4 j hj] at this
        exact this
      · have h1 := (Hx.fwI_bd f2 ((Hx.labs ps).length + 1) (Hx.labs ps).length j).2
        have h2 := Hx.pow_small (k := (Hx.labs ps).length + 1) (by have := hg.all; omega)
        have h3 : (4000 : Int) * 2 ^ ((Hx.labs ps).length + 1) ≤ 4096000 := by
          have h4 : (2 : Int) ^ ((Hx.labs ps).length + 1) ≤ 2 ^ 10 := by
            have : (2 : Nat) ^ ((Hx.labs ps).length + 1) ≤ 2 ^ 10 := Nat.pow_le_pow_right (by omega) (by have := hg.all; omega)
            exact_mod_cast this
          have h5 : (2 : Int) ^ 10 = 1024 := by decide
          omega
        exact Int.le_trans h1 (by omega)

end Go.Proofs.YtppcnlkhdgmaiabGreatDoor
namespace Go.Proofs.YtppcnlkhdgmaiabGreatDoor
open Go.RowKit

theorem Hx.cand_some {J D : Nat} {ps : List (List Hx.Stp)} {o : List Nat} {f : Nat → Int} {e : Int} (h : Hx.candF J D ps o = some (f, e)) :
    Hx.earlyF J (o.map (Hx.turnOfIdx ps)) = some f ∧ e = Hx.endT J (o.map (Hx.turnOfIdx ps)) f ∧ e ≤ (D : Int) := by
  unfold Hx.candF at h
  split at h
  · cases h
  · rename_i g he
    split at h
    · rename_i hle
      cases h
      exact ⟨he, rfl, hle⟩
    · cases h

theorem rwrite_any {J K D : Nat} {ps : List (List Hx.Stp)} (hg : Hx.GoodP J K D ps) (pl : Int) (gs cap go capo gt ct : Nat) (o : List Nat) (f : Nat → Int) (e : Int) (w : World) (hS : Stps w (.slice (some ⟨gs, 0, none⟩) (Hx.labs ps).length cap) (Hx.labs ps))
    (ho : w.ownsRow 0 3 1 (.slice (some ⟨go, 0, none⟩) (Hx.labs ps).length capo) o.length (ints (nats o))) (hord : Hx.Ord ps o) (hin : o ∈ Hx.allO K (Hx.labs ps) (Hx.labs ps).length []) (hc : Hx.candF J D ps o = some (f, e)) (hgt : gt < w.heap.size)
    (hcs : ∀ j, j < (Hx.labs ps).length → w.cell? ⟨gt, j, none⟩ = some (.int .i64 (Hx.tmF J (Hx.labs ps) o j)) ∧ 0 ≤ Hx.tmF J (Hx.labs ps) o j ∧ Hx.tmF J (Hx.labs ps) o j ≤ 10000000)
    (heq : ∀ k, k < (Hx.labs ps).length → Hx.tmF J (Hx.labs ps) o (o.getD k 0) = f k) :
    Calls Tryz.prog 25 #[.agg #[.int .i64 (J : Int), .int .i64 (K : Int), .int .i64 (D : Int), .slice (some ⟨gs, 0, none⟩) (Hx.labs ps).length cap, .int .i64 pl], .slice (some ⟨go, 0, none⟩) (Hx.labs ps).length capo, .slice (some ⟨gt, 0, none⟩) (Hx.labs ps).length ct] w
      fun r w' => r = .returned (.string ⟨(Hx.writeF J ps.length (Hx.pairs (o.map (Hx.turnOfIdx ps)) f)).toArray⟩) ∧ Below w.heap.size w w' := by
  obtain ⟨h1, h2, h3⟩ := Hx.cand_some hc
  have hpos := hS.pos
  have hll : (o.map (Hx.turnOfIdx ps)).length = (Hx.labs ps).length := by rw [List.length_map, hord.len]
  have hD := hg.d
  have hidx : ∀ j, j < (Hx.labs ps).length → ∃ k, k < (Hx.labs ps).length ∧ o[k]? = some j ∧ o.getD k 0 = j := fun j hj => by
    obtain ⟨k, hk, ek⟩ := List.mem_iff_getElem.1 (hord.all j hj)
    have e1 : o[k]? = some j := by rw [List.getElem?_eq_getElem hk, ek]
    refine ⟨k, by rw [← hord.len]; exact hk, e1, ?_⟩
    have := Hx.getD_at hk
    rw [e1] at this
    exact (Option.some.inj this).symm
  have hlast : f ((Hx.labs ps).length - 1) ≤ (D : Int) := by
    have e1 : e = f ((Hx.labs ps).length - 1) + (J : Int) + ((Hx.turnOfIdx ps (o.getD ((Hx.labs ps).length - 1) 0)).x.hi : Int) := by
      rw [h2]
      unfold Hx.endT
      rw [hll, Hx.map_at (Hx.getD_at (by rw [hord.len]; omega))]
    omega
  have hfle : ∀ k, k < (Hx.labs ps).length → f k ≤ (D : Int) := fun k hk => by
    have := Hx.early_mono h1 ((Hx.labs ps).length - 1 - k) k (by rw [hll]; omega)
    rw [show k + ((Hx.labs ps).length - 1 - k) = (Hx.labs ps).length - 1 by omega] at this
    omega
  have hho : w.ownsRow 0 3 1 (.slice (some ⟨go, 0, none⟩) (Hx.labs ps).length capo) (Hx.labs ps).length (ints (nats o)) := by
    have := ho
    rw [hord.len] at this
    exact this
  refine refwrite_any J K D pl gs cap go capo gt ct ps.length (Hx.labs ps) o (Hx.tmF J (Hx.labs ps) o) w hS.ow hho hord.len hord.lt hgt (fun j hj => (hcs j hj).1) (fun j hj => ⟨(hcs j hj).2.1, ?_⟩) (by have := hg.all; omega) hpos hg.j (by have := hg.le; omega)
    (Hx.pairs (o.map (Hx.turnOfIdx ps)) f) (fun i a y hi hy => ?_) (by rw [Hx.pairs_len, List.length_map]) (fun p hp => ?_) (fun i p hi hr => ?_)
  · obtain ⟨k, hk, _, ek⟩ := hidx j hj
    have := hfle k hk
    rw [← heq k hk, ek] at this
    omega
  · have hil : i < (Hx.labs ps).length := by rw [← hord.len]; exact Hx.getElem?_lt hi
    have e1 : o.getD i 0 = a := by
      have := Hx.getD_at (Hx.getElem?_lt hi)
      rw [hi] at this
      exact (Option.some.inj this).symm
    rw [Hx.pairs_at (Hx.map_at hi), Hx.turn_at hy, ← heq i hil, e1]
  · obtain ⟨i, _, hm, _⟩ := Hx.pairs_mem hp
    obtain ⟨a, ha, ea⟩ := List.mem_map.1 hm
    rw [← ea]
    exact Hx.turn_sm hg (hord.lt a ha)
  · have hil : i < o.length := by
      have := Hx.getElem?_lt hi
      rw [Hx.pairs_len, List.length_map] at this
      exact this
    obtain ⟨a, ha⟩ : ∃ a, o[i]? = some a := ⟨_, List.getElem?_eq_getElem hil⟩
    obtain ⟨y, hy⟩ : ∃ y, (Hx.labs ps)[a]? = some y := ⟨_, List.getElem?_eq_getElem (hord.lt a (List.mem_of_getElem? ha))⟩
    rw [Hx.pairs_at (Hx.map_at ha), Hx.turn_at hy] at hi
    cases hi
    have := Hx.order_rest hg.fine hin ha hy hr
    rw [Hx.wSt_T]
    have e1 : ((Hx.pairs (o.map (Hx.turnOfIdx ps)) f).take i).map (·.1) = (o.take i).map (Hx.turnOfIdx ps) := by
      apply List.ext_getElem?
      intro m
      rw [List.getElem?_map, List.getElem?_take, List.getElem?_map, List.getElem?_take]
      split
      · cases hm : o[m]? with
        | none =>
          have : (Hx.pairs (o.map (Hx.turnOfIdx ps)) f)[m]? = none := by
            rw [List.getElem?_eq_none_iff, Hx.pairs_len, List.length_map]
            exact List.getElem?_eq_none_iff.1 hm
          rw [this]; rfl
        | some b => rw [Hx.pairs_at (Hx.map_at hm)]; rfl
      · rfl
    rw [e1]
    exact this

end Go.Proofs.YtppcnlkhdgmaiabGreatDoor
