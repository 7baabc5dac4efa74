/- A range over a function whose iterator keeps state of its own: the statement, and one round. What bestTimetable does: the best of the orders that are gone through. What a round of bestTimetable's loop leaves. -/
import Derived.Test.YtppcnlkhdgmaiaaDoorCPlM
namespace Go.Proofs.YtppcnlkhdgmaiaaDoor
open Go.RowKit

/-- The statement, where the iterator's call is known. -/
theorem range_wp {Pg : Program} {g : Operand} {prs : Array Tmp} {assign body : Code} {Q : Exit → Act → World → Prop} {a : Act} {w : World} {gf : Nat} {lb : Array Value} (hg : a.eval g = .func (.func gf) #[] lb) (eg : ∀ args w, (callFunc gf args).run Pg w = .ok (.enter gf args) w)
    (h : ∀ (fn : FuncId) (rec : LoopState → Option Code → Loop), (rec = fun st pe => { state := st, pending := pe, fn, tmps := a.tmps, params := prs, assign, body, defers := w.heap.size }) →
      Calls Pg gf (#[.func (.yield (w.heap.size + 1)) #[] #[]] ++ lb) ((w.alloc (.deferred (some []))).alloc (.loop (rec .ready none))) fun e W2 => (∃ v, e = .returned v) ∧
        ((W2.heap[w.heap.size + 1]? = some (.loop (rec .ready none)) ∧ Q .normal { a with defers := { target := .collected w.heap.size, args := #[] } :: a.defers } (W2.putObj (w.heap.size + 1) (.loop { rec .ready none with state := .exhausted }))) ∨
         ∃ c, W2.heap[w.heap.size + 1]? = some (.loop (rec .done (some c))) ∧ c.wp Pg Q { a with defers := { target := .collected w.heap.size, args := #[] } :: a.defers } (W2.putObj (w.heap.size + 1) (.loop { rec .done (some c) with state := .exhausted })))) :
    (Code.rangeFunc g prs assign body).wp Pg Q a w := by
  refine (wpIn_wide (n := 9)).1 ?_
  refine wpIn_rangeFunc ?_
  intro fn _
  obtain ⟨rec, hrec⟩ : ∃ rec : LoopState → Option Code → Loop, rec = fun st pe => { state := st, pending := pe, fn, tmps := a.tmps, params := prs, assign, body, defers := w.heap.size } := ⟨_, rfl⟩
  have h1 := h fn rec hrec
  obtain ⟨W1, hW1⟩ : ∃ W1, (w.alloc (.deferred (some []))).alloc (.loop (rec .ready none)) = W1 := ⟨_, rfl⟩
  rw [hW1] at h1
  refine ⟨w.heap.size + 1, [{ target := .collected w.heap.size, args := #[] }], W1, { target := .fn (.func gf) lb, args := #[.func (.yield (w.heap.size + 1)) #[] #[]] }, W1, gf, #[.func (.yield (w.heap.size + 1)) #[] #[]] ++ lb, W1, ?_, ?_, ?_, ?_, fun _ => (by omega), ?_⟩
  · rw [← hW1, hrec]; exact run_enterLoop_outer _ _ _ _ _
  · simp only [resolve, hg]
    simp [go_sem]
  · intro f' _
    exact trivial
  · simp [invoke, go_sem, eg]
  · refine callsIn_wide.2 (h1.mono ?_)
    rintro e W2 ⟨⟨v, rfl⟩, ⟨hl, hq⟩ | ⟨c, hl, hq⟩⟩
    · refine ⟨none, W2.putObj (w.heap.size + 1) (.loop { rec .ready none with state := .exhausted }), ?_, hq⟩
      have h2 := run_endLoop (P := Pg) hl (by rw [hrec]; simp)
      rw [h2]
      rw [hrec]
    · refine ⟨some c, W2.putObj (w.heap.size + 1) (.loop { rec .done (some c) with state := .exhausted }), ?_, wpIn_wide.2 hq⟩
      have h2 := run_endLoop (P := Pg) hl (by rw [hrec]; simp)
      rw [h2]
      rw [hrec]

/-- One round, out of its body's walk. -/
theorem round_at {Pg : Program} {yl m : Nat} {L : Loop} {W : World} {args : Array Value} {R : Ending → World → Prop} {a₁ : Act} (hl : W.heap[yl]? = some (.loop L)) (hr : L.state = .ready) (hs : args.size = L.params.size)
    (ha : ∀ K : Act → World → Prop, K a₁ W → L.assign.wpIn (Fence.wide.inRound yl) m Pg (Exit.then K (fun _ _ _ => False)) { tmps := (L.params.zip args).foldl (fun tmps (t, a) => tmps.setIfInBounds t a) L.tmps, defers := [] } W)
    (hb : L.body.wpIn (Fence.wide.inRound yl) m Pg (roundPost Pg yl R) a₁ (W.putObj yl (.loop { L with state := .busy }))) : YieldAt Fence.wide m Pg yl args W R :=
  ⟨L.fn, _, L.assign, L.body, run_yield hl hs, roundIn_of_wpIn trivial (ha _ ⟨_, run_beginRound hl hr, hb⟩)⟩

end Go.Proofs.YtppcnlkhdgmaiaaDoor
namespace Go.Proofs.YtppcnlkhdgmaiaaDoor
open Go.RowKit

namespace Hx
/-- The best so far: an order, its times, when it is over. -/
structure Bst where
  o : List Nat
  f : Nat → Int
  e : Int
/-- An order that is in time: its times, when it is over. -/
def candF (J D : Nat) (ps : List (List Stp)) (o : List Nat) : Option ((Nat → Int) × Int) :=
  match earlyF J (o.map (turnOfIdx ps)) with
  | none => none
  | some f => if endT J (o.map (turnOfIdx ps)) f ≤ (D : Int) then some (f, endT J (o.map (turnOfIdx ps)) f) else none
def betterF (J D : Nat) (ps : List (List Stp)) (acc : Option Bst) (o : List Nat) : Option Bst :=
  match candF J D ps o with
  | none => acc
  | some (f, e) => match acc with
    | none => some ⟨o, f, e⟩
    | some b => if e < b.e then some ⟨o, f, e⟩ else some b
def bestF (J D : Nat) (ps : List (List Stp)) (os : List (List Nat)) : Option Bst := os.foldl (betterF J D ps) none
theorem bestF_snoc (J D : Nat) (ps : List (List Stp)) (os : List (List Nat)) (o : List Nat) : bestF J D ps (os ++ [o]) = betterF J D ps (bestF J D ps os) o := by simp [bestF]
def lastB (pre : List (List Nat × Bool)) : Bool := match pre.getLast? with | some x => x.2 | none => false
theorem lastB_snoc (pre : List (List Nat × Bool)) (o : List Nat) (b : Bool) : lastB (pre ++ [(o, b)]) = b := by simp [lastB]
end Hx

/-- What the caller holds between two rounds, and what it lies in. -/
structure BI (w : World) (J K D : Nat) (v : Value) (ps : List (List Hx.Stp)) (N : Nat) (pre : List (List Nat × Bool)) (P : Nat → Prop) (W : World) (ov tv : Value) (en : Int) : Prop where
  p0 : P w.heap.size
  p1 : P (w.heap.size + 1)
  p2 : P (w.heap.size + 1 + 1)
  p3 : P (w.heap.size + 1 + 1 + 1)
  p4 : P (w.heap.size + 1 + 1 + 1 + 1)
  cb : W.heap[w.heap.size]? = some (.cells #[.int .i64 (J : Int), .int .i64 (K : Int), .int .i64 (D : Int), v] 75 (0, 0))
  bt : W.heap[w.heap.size + 1]? = some (.cells #[ov, tv, .int .i64 en] 89 (0, 0))
  fd : W.heap[w.heap.size + 1 + 1]? = some (.cells #[.bool (Hx.bestF J D ps (pre.map (·.1))).isSome] 4 (0, 0))
  mr : W.heap[w.heap.size + 1 + 1 + 1]? = some (.cells #[.bool (Hx.lastB pre)] 4 (0, 0))
  lf : W.heap[w.heap.size + 1 + 1 + 1 + 1]? = some (.cells #[.int .i64 ((N : Int) - (pre.length : Int))] 3 (0, 0))
  no : Hx.bestF J D ps (pre.map (·.1)) = none → ov = .slice none 0 0 ∧ tv = .slice none 0 0 ∧ en = 0
  yes : ∀ b, Hx.bestF J D ps (pre.map (·.1)) = some b → en = b.e ∧ Trns W w.heap.size ov (b.o.map (Hx.turnOfIdx ps)) ∧ W.ownsRow (w.heap.size + 1 + 1 + 1 + 1 + 1) 3 1 tv b.o.length (intCells b.o.length b.f) ∧ (∀ x, ov.ownBlock = some x → P x) ∧ (∀ x, tv.ownBlock = some x → P x)
theorem BI.keep {w W W' : World} {J K D N : Nat} {v ov tv : Value} {ps : List (List Hx.Stp)} {pre : List (List Nat × Bool)} {P : Nat → Prop} {en : Int} (h : BI w J K D v ps N pre P W ov tv en)
    (hk : ∀ x y t f, P x → W.heap[x]? = some (.cells y t f) → W'.heap[x]? = some (.cells y t f)) : BI w J K D v ps N pre P W' ov tv en := by
  refine ⟨h.p0, h.p1, h.p2, h.p3, h.p4, hk _ _ _ _ h.p0 h.cb, hk _ _ _ _ h.p1 h.bt, hk _ _ _ _ h.p2 h.fd, hk _ _ _ _ h.p3 h.mr, hk _ _ _ _ h.p4 h.lf, h.no, fun b hb => ?_⟩
  obtain ⟨h1, h2, h3, h4, h5⟩ := h.yes b hb
  have kr : ∀ {base n size : Nat} {e : TypeId} {u : Value} {xs : List Value}, W.ownsRow base e size u n xs → (∀ x, u.ownBlock = some x → P x) → W'.ownsRow base e size u n xs := fun hr hp => by
    refine own_of_kept hr fun x hx => ?_
    rcases hr.2 with ⟨e, _⟩ | ⟨g, cap, cur, e, _, h4, _⟩
    · subst e; cases hx
    · subst e; cases hx
      rw [hk _ _ _ _ (hp _ rfl) h4, h4]
  exact ⟨h1, kr h2 h4, kr h3 h5, h4, h5⟩

/-- What a round leaves: the blocks of the caller's own variables anew, all else as it was. -/
structure Rnd (w W2 S : World) (ov tv : Value) (en : Int) (fd mr : Bool) (lf : Int) : Prop where
  size : S.heap.size = W2.heap.size
  bt : S.heap[w.heap.size + 1]? = some (.cells #[ov, tv, .int .i64 en] 89 (0, 0))
  fd : S.heap[w.heap.size + 1 + 1]? = some (.cells #[.bool fd] 4 (0, 0))
  mr : S.heap[w.heap.size + 1 + 1 + 1]? = some (.cells #[.bool mr] 4 (0, 0))
  lf : S.heap[w.heap.size + 1 + 1 + 1 + 1]? = some (.cells #[.int .i64 lf] 3 (0, 0))
  ot : ∀ x, x ≠ w.heap.size + 1 → x ≠ w.heap.size + 1 + 1 → x ≠ w.heap.size + 1 + 1 + 1 → x ≠ w.heap.size + 1 + 1 + 1 + 1 → S.heap[x]? = W2.heap[x]?
  be : Below w.heap.size w W2 → Below w.heap.size w S
theorem set_size (W : World) (a : Addr) (v : Value) : (W.setCell a v).heap.size = W.heap.size := by
  show (W.heap.modify _ _).size = _
  rw [Array.size_modify]
theorem Rnd.keep {w W2 : World} {ov tv : Value} {en : Int} {fd mr : Bool} {lf : Int} (bt : W2.heap[w.heap.size + 1]? = some (.cells #[ov, tv, .int .i64 en] 89 (0, 0))) (hfd : W2.heap[w.heap.size + 1 + 1]? = some (.cells #[.bool fd] 4 (0, 0)))
    (hmr : W2.heap[w.heap.size + 1 + 1 + 1]? = some (.cells #[.bool mr] 4 (0, 0))) (hlf : W2.heap[w.heap.size + 1 + 1 + 1 + 1]? = some (.cells #[.int .i64 lf] 3 (0, 0))) (mr' : Bool) (lf' : Int) :
    Rnd w W2 ((W2.setCell ⟨w.heap.size + 1 + 1 + 1, 0, none⟩ (.bool mr')).setCell ⟨w.heap.size + 1 + 1 + 1 + 1, 0, none⟩ (.int .i64 lf')) ov tv en fd mr' lf' := by
  refine ⟨by rw [set_size, set_size], blk_set_other (blk_set_other bt (by omega) _ _) (by omega) _ _, blk_set_other (blk_set_other hfd (by omega) _ _) (by omega) _ _, blk_set_other (blk_set hmr 0 _) (by omega) _ _, blk_set (blk_set_other hlf (by omega) _ _) 0 _, fun x h1 h2 h3 h4 => ?_, fun h => (h.setCell (by show _ ≤ w.heap.size + 1 + 1 + 1; omega) _).setCell (by show _ ≤ w.heap.size + 1 + 1 + 1 + 1; omega) _⟩
  rw [Below.heap_setCell _ _ _ x h4, Below.heap_setCell _ _ _ x h3]
theorem Rnd.anew {w W2 : World} {ov tv : Value} {en : Int} {fd mr : Bool} {lf : Int} (bt : W2.heap[w.heap.size + 1]? = some (.cells #[ov, tv, .int .i64 en] 89 (0, 0))) (hfd : W2.heap[w.heap.size + 1 + 1]? = some (.cells #[.bool fd] 4 (0, 0)))
    (hmr : W2.heap[w.heap.size + 1 + 1 + 1]? = some (.cells #[.bool mr] 4 (0, 0))) (hlf : W2.heap[w.heap.size + 1 + 1 + 1 + 1]? = some (.cells #[.int .i64 lf] 3 (0, 0))) (ov' tv' : Value) (en' : Int) (mr' : Bool) (lf' : Int) :
    Rnd w W2 ((((((W2.setCell ⟨w.heap.size + 1, 0, none⟩ ov').setCell ⟨w.heap.size + 1, 1, none⟩ tv').setCell ⟨w.heap.size + 1, 2, none⟩ (.int .i64 en')).setCell ⟨w.heap.size + 1 + 1, 0, none⟩ (.bool true)).setCell ⟨w.heap.size + 1 + 1 + 1, 0, none⟩ (.bool mr')).setCell ⟨w.heap.size + 1 + 1 + 1 + 1, 0, none⟩ (.int .i64 lf')) ov' tv' en' true mr' lf' := by
  have b3 := three_set W2 _ _ _ ov' tv' (.int .i64 en') bt
  have k3 : ∀ {x : Nat} {o : Obj}, W2.heap[x]? = some o → x ≠ w.heap.size + 1 → (((W2.setCell ⟨w.heap.size + 1, 0, none⟩ ov').setCell ⟨w.heap.size + 1, 1, none⟩ tv').setCell ⟨w.heap.size + 1, 2, none⟩ (.int .i64 en')).heap[x]? = some o := fun hx hne => blk_set_other (blk_set_other (blk_set_other hx hne _ _) hne _ _) hne _ _
  refine ⟨by rw [set_size, set_size, set_size, set_size, set_size, set_size], blk_set_other (blk_set_other (blk_set_other b3 (by omega) _ _) (by omega) _ _) (by omega) _ _, blk_set_other (blk_set_other (blk_set (k3 hfd (by omega)) 0 _) (by omega) _ _) (by omega) _ _, blk_set_other (blk_set (blk_set_other (k3 hmr (by omega)) (by omega) _ _) 0 _) (by omega) _ _,
    blk_set (blk_set_other (blk_set_other (k3 hlf (by omega)) (by omega) _ _) (by omega) _ _) 0 _, fun x h1 h2 h3 h4 => ?_, fun h => ?_⟩
  · rw [Below.heap_setCell _ _ _ x h4, Below.heap_setCell _ _ _ x h3, Below.heap_setCell _ _ _ x h2, Below.heap_setCell _ _ _ x h1, Below.heap_setCell _ _ _ x h1, Below.heap_setCell _ _ _ x h1]
  · have l1 : w.heap.size ≤ w.heap.size + 1 := by omega
    have l2 : w.heap.size ≤ w.heap.size + 1 + 1 := by omega
    have l3 : w.heap.size ≤ w.heap.size + 1 + 1 + 1 := by omega
    have l4 : w.heap.size ≤ w.heap.size + 1 + 1 + 1 + 1 := by omega
    exact (((((h.setCell (p := ⟨w.heap.size + 1, 0, none⟩) l1 _).setCell (p := ⟨w.heap.size + 1, 1, none⟩) l1 _).setCell (p := ⟨w.heap.size + 1, 2, none⟩) l1 _).setCell (p := ⟨w.heap.size + 1 + 1, 0, none⟩) l2 _).setCell (p := ⟨w.heap.size + 1 + 1 + 1, 0, none⟩) l3 _).setCell (p := ⟨w.heap.size + 1 + 1 + 1 + 1, 0, none⟩) l4 _

theorem rnd_same {w W W2 S : World} {yl : Nat} {ov tv : Value} {en lf : Int} {fd mr : Bool} {o1 o2 : Obj} (hb2 : Below (W.putObj yl o1).heap.size (W.putObj yl o1) W2) (hr : Rnd w W2 S ov tv en fd mr lf) (x : Nat) (hx : x < W.heap.size) (hy : x ≠ yl)
    (h1 : x ≠ w.heap.size + 1) (h2 : x ≠ w.heap.size + 1 + 1) (h3 : x ≠ w.heap.size + 1 + 1 + 1) (h4 : x ≠ w.heap.size + 1 + 1 + 1 + 1) : (S.putObj yl o2).heap[x]? = W.heap[x]? := by
  rw [World.putObj_heap_other hy, hr.ot x h1 h2 h3 h4, hb2.block x (by rw [World.putObj_size]; exact hx), World.putObj_heap_other hy]
/-- What a round that is over has left: the caller's own, anew. -/
theorem BI.next {w W W2 S : World} {J K D N yl : Nat} {v ov tv ov' tv' : Value} {ps : List (List Hx.Stp)} {pre : List (List Nat × Bool)} {P P' : Nat → Prop} {en en' : Int} {o : List Nat} {fl : Bool} {L : Loop} {o1 o2 : Obj}
    (h : BI w J K D v ps N pre P W ov tv en) (hl : W.heap[yl]? = some (.loop L)) (hb2 : Below (W.putObj yl o1).heap.size (W.putObj yl o1) W2) (hr : Rnd w W2 S ov' tv' en' (Hx.bestF J D ps ((pre ++ [(o, fl)]).map (·.1))).isSome fl ((N : Int) - ((pre ++ [(o, fl)]).length : Int))) (hPP : ∀ x, P x → P' x)
    (hno : Hx.bestF J D ps ((pre ++ [(o, fl)]).map (·.1)) = none → ov' = .slice none 0 0 ∧ tv' = .slice none 0 0 ∧ en' = 0)
    (hyes : ∀ b, Hx.bestF J D ps ((pre ++ [(o, fl)]).map (·.1)) = some b → en' = b.e ∧ Trns (S.putObj yl o2) w.heap.size ov' (b.o.map (Hx.turnOfIdx ps)) ∧ (S.putObj yl o2).ownsRow (w.heap.size + 1 + 1 + 1 + 1 + 1) 3 1 tv' b.o.length (intCells b.o.length b.f) ∧ (∀ x, ov'.ownBlock = some x → P' x) ∧ (∀ x, tv'.ownBlock = some x → P' x)) :
    BI w J K D v ps N (pre ++ [(o, fl)]) P' (S.putObj yl o2) ov' tv' en' := by
  have ny : ∀ {x : Nat} {y : Array Value} {t : TypeId} {f : Nat × Nat}, W.heap[x]? = some (.cells y t f) → x ≠ yl := fun hx e => by subst e; rw [hl] at hx; cases hx
  have up : ∀ {x : Nat} {ob : Obj}, S.heap[x]? = some ob → x ≠ yl → (S.putObj yl o2).heap[x]? = some ob := fun hx hne => (World.putObj_heap_other hne).trans hx
  refine ⟨hPP _ h.p0, hPP _ h.p1, hPP _ h.p2, hPP _ h.p3, hPP _ h.p4, ?_, up hr.bt (ny h.bt), up hr.fd (ny h.fd), ?_, up hr.lf (ny h.lf), hno, hyes⟩
  · rw [rnd_same hb2 hr _ (lt_of_block h.cb) (ny h.cb) (by omega) (by omega) (by omega) (by omega)]; exact h.cb
  · rw [Hx.lastB_snoc]; exact up hr.mr (ny h.mr)

end Go.Proofs.YtppcnlkhdgmaiaaDoor
namespace Go.Proofs.YtppcnlkhdgmaiaaDoor
open Go.RowKit

theorem turns_pl {c : Cx} {o : List Nat} (hg : GoodC c) (hin : ∀ i ∈ o, i < (Hx.labs c.ps).length) : ∀ t ∈ o.map (Hx.turnOfIdx c.ps), t.pl < c.ps.length := by
  intro t ht
  obtain ⟨i, hi, rfl⟩ := List.mem_map.1 ht
  obtain ⟨p, n, q, x, hq, hx, e⟩ := Hx.labs_inv (hin i hi)
  have h1 := Hx.turnOfIdx_at hg.fine (show Hx.turnAt c.ps p n = some ⟨x, p, n, Hx.begB q n⟩ by simp [Hx.turnAt, hq, hx])
  simp only [Hx.idxT] at h1
  rw [e, h1]
  exact Hx.getElem?_lt hq
theorem turns_small {c : Cx} {o : List Nat} (hg : GoodC c) (hin : ∀ i ∈ o, i < (Hx.labs c.ps).length) : ∀ t ∈ o.map (Hx.turnOfIdx c.ps), t.x.lo < 1000 ∧ t.x.hi < 1000 ∧ t.x.mn < 1000 ∧ t.x.mx < 1000 := by
  intro t ht
  obtain ⟨i, hi, rfl⟩ := List.mem_map.1 ht
  obtain ⟨p, n, q, x, hq, hx, e⟩ := Hx.labs_inv (hin i hi)
  have h1 := Hx.turnOfIdx_at hg.fine (show Hx.turnAt c.ps p n = some ⟨x, p, n, Hx.begB q n⟩ by simp [Hx.turnAt, hq, hx])
  simp only [Hx.idxT] at h1
  rw [e, h1]
  exact hg.small q (List.mem_of_getElem? hq) x (List.mem_of_getElem? hx)

/-- timetableOf at an order that is not in time; at one that is. -/
theorem tt_no {J D : Nat} {ps : List (List Hx.Stp)} {o : List Nat} {sv : Value} {W : World} (hc : Hx.candF J D ps o = none) {ars : Array Value} (h : Calls Tryd.prog 51 ars W (TtRes J D (o.map (Hx.turnOfIdx ps)) sv W)) {gs : Option Addr} {ls cs : Nat} (hsv : sv = .slice gs ls cs) :
    Calls Tryd.prog 51 ars W fun e W2 => ∃ (a1 a2 : Option Addr) (l1 c1 l2 c2 : Nat) (te : Int), e = .returned (.tuple #[.agg #[.slice a1 l1 c1, .slice a2 l2 c2, .int .i64 te], .bool false]) ∧ Below W.heap.size W W2 := by
  refine h.mono ?_
  rintro e W2 ⟨hb, ⟨_, rfl⟩ | ⟨f, gt, h1, _, rfl, _⟩⟩
  · exact ⟨none, none, 0, 0, 0, 0, 0, rfl, hb⟩
  · have hd : decide (Hx.endT J (o.map (Hx.turnOfIdx ps)) f ≤ (D : Int)) = false := by
      unfold Hx.candF at hc
      rw [h1] at hc
      simp only at hc
      by_cases hd : Hx.endT J (o.map (Hx.turnOfIdx ps)) f ≤ (D : Int)
      · rw [if_pos hd] at hc; cases hc
      · simpa using hd
    rw [hd, hsv]
    exact ⟨gs, some ⟨gt, 0, none⟩, ls, cs, _, _, _, rfl, hb⟩
theorem tt_yes {J D : Nat} {ps : List (List Hx.Stp)} {o : List Nat} {sv : Value} {W : World} {f : Nat → Int} {te : Int} (hc : Hx.candF J D ps o = some (f, te)) {ars : Array Value} (h : Calls Tryd.prog 51 ars W (TtRes J D (o.map (Hx.turnOfIdx ps)) sv W)) :
    Calls Tryd.prog 51 ars W fun e W2 => ∃ gt, e = .returned (.tuple #[.agg #[sv, .slice (some ⟨gt, 0, none⟩) o.length o.length, .int .i64 te], .bool true]) ∧ Below W.heap.size W W2 ∧ W2.ownsRow W.heap.size 3 1 (.slice (some ⟨gt, 0, none⟩) o.length o.length) o.length (intCells o.length f) := by
  refine h.mono ?_
  unfold Hx.candF at hc
  rintro e W2 ⟨hb, ⟨h1, _⟩ | ⟨g, gt, h1, _, rfl, hrow⟩⟩
  · rw [h1] at hc; cases hc
  · rw [h1] at hc
    simp only at hc
    by_cases hd : Hx.endT J (o.map (Hx.turnOfIdx ps)) g ≤ (D : Int)
    · rw [if_pos hd] at hc
      have hdd : decide (Hx.endT J (o.map (Hx.turnOfIdx ps)) g ≤ (D : Int)) = true := by simpa using hd
      rw [hdd]
      cases hc
      rw [List.length_map] at hrow ⊢
      exact ⟨gt, rfl, hb, hrow⟩
    · rw [if_neg hd] at hc; cases hc

/-- What the caller holds between two rounds; and when the last one has left the loop. -/
def ClB (w : World) (J K D : Nat) (v : Value) (ps : List (List Hx.Stp)) (N yl df : Nat) (rec : LoopState → Option Code → Loop) (pre : List (List Nat × Bool)) (P : Nat → Prop) (W : World) : Prop :=
  (∃ ov tv en, BI w J K D v ps N pre P W ov tv en) ∧ pre.length < N ∧ P yl ∧ P df ∧ W.heap[yl]? = some (.loop (rec .ready none)) ∧ W.heap[df]? = some (.deferred (some [])) ∧ ∀ x, P x → w.heap.size ≤ x ∧ x < W.heap.size
def CxB (w : World) (J K D : Nat) (v : Value) (ps : List (List Hx.Stp)) (N yl df : Nat) (rec : LoopState → Option Code → Loop) (pre : List (List Nat × Bool)) (P : Nat → Prop) (W : World) : Prop :=
  (∃ ov tv en, BI w J K D v ps N pre P W ov tv en) ∧ pre.length = N ∧ P yl ∧ P df ∧ W.heap[yl]? = some (.loop (rec .done (some (.exit 0)))) ∧ W.heap[df]? = some (.deferred (some [])) ∧ ∀ x, P x → w.heap.size ≤ x ∧ x < W.heap.size

theorem round_close {w W W3 S : World} {J K D N yl df : Nat} {v ov tv ov' tv' : Value} {ps : List (List Hx.Stp)} {pre : List (List Nat × Bool)} {P P' : Nat → Prop} {en en' : Int} {o : List Nat} {fl : Bool} {sb : Option Nat} {rec : LoopState → Option Code → Loop} {jump : Option Code}
    (hrec : ∀ st pe, { rec .ready none with state := st, pending := pe } = rec st pe) (h : BI w J K D v ps N pre P W ov tv en) (hl : W.heap[yl]? = some (.loop (rec .ready none))) (hdf : W.heap[df]? = some (.deferred (some []))) (hPy : P yl) (hPd : P df) (hbe : Below w.heap.size w W)
    (hb2 : Below (W.putObj yl (.loop { rec .ready none with state := .busy })).heap.size (W.putObj yl (.loop { rec .ready none with state := .busy })) W3)
    (hr : Rnd w W3 S ov' tv' en' (Hx.bestF J D ps ((pre ++ [(o, fl)]).map (·.1))).isSome fl ((N : Int) - ((pre ++ [(o, fl)]).length : Int))) (hPP : ∀ x, P x → P' x) (hwy : w.heap.size ≤ yl)
    (hP' : ∀ x, P' x → (P x ∨ sb = some x ∨ W.heap.size ≤ x) ∧ w.heap.size ≤ x ∧ x < W3.heap.size)
    (hno : Hx.bestF J D ps ((pre ++ [(o, fl)]).map (·.1)) = none → ov' = .slice none 0 0 ∧ tv' = .slice none 0 0 ∧ en' = 0)
    (hyes : ∀ o2 b, Hx.bestF J D ps ((pre ++ [(o, fl)]).map (·.1)) = some b → en' = b.e ∧ Trns (S.putObj yl o2) w.heap.size ov' (b.o.map (Hx.turnOfIdx ps)) ∧ (S.putObj yl o2).ownsRow (w.heap.size + 1 + 1 + 1 + 1 + 1) 3 1 tv' b.o.length (intCells b.o.length b.f) ∧ (∀ x, ov'.ownBlock = some x → P' x) ∧ (∀ x, tv'.ownBlock = some x → P' x))
    (hj : (jump = none ∧ (pre ++ [(o, fl)]).length < N) ∨ (jump = some (.exit 0) ∧ (pre ++ [(o, fl)]).length = N)) :
    ∃ u w', (Instr.endRound yl jump).run Tryd.prog S = .ok u w' ∧ YRes w (ClB w J K D v ps N yl df rec) (CxB w J K D v ps N yl df rec) (pre ++ [(o, fl)]) P sb W (.returned u) w' := by
  have ny : ∀ {x : Nat} {y : Array Value} {t : TypeId} {f : Nat × Nat}, W.heap[x]? = some (.cells y t f) → x ≠ yl := fun hx e => by subst e; rw [hl] at hx; cases hx
  have nd : ∀ {x : Nat} {y : Array Value} {t : TypeId} {f : Nat × Nat}, W.heap[x]? = some (.cells y t f) → x ≠ df := fun hx e => by subst e; rw [hdf] at hx; cases hx
  have hdy : df ≠ yl := fun e => by subst e; rw [hdf] at hl; cases hl
  have hsy : S.heap[yl]? = some (.loop { rec .ready none with state := .busy }) := by
    rw [hr.ot yl (ny h.bt).symm (ny h.fd).symm (ny h.mr).symm (ny h.lf).symm, hb2.block yl (by rw [World.putObj_size]; exact lt_of_block hl)]
    exact World.putObj_heap_same (lt_of_block hl)
  have hrun := run_endRound (P := Tryd.prog) jump hsy
  refine ⟨_, _, hrun, P', ?_, ?_, ?_, ?_, ?_⟩
  · have hbi := BI.next (o2 := .loop { rec .ready none with state := if jump.isNone then .ready else .done, pending := jump }) h hl hb2 hr hPP hno (hyes _)
    have hy : (S.putObj yl (.loop { rec .ready none with state := if jump.isNone then .ready else .done, pending := jump })).heap[yl]? = some (.loop { rec .ready none with state := if jump.isNone then .ready else .done, pending := jump }) := World.putObj_heap_same (lt_of_block hsy)
    have hd : (S.putObj yl (.loop { rec .ready none with state := if jump.isNone then .ready else .done, pending := jump })).heap[df]? = some (.deferred (some [])) := by
      rw [rnd_same hb2 hr df (lt_of_block hdf) hdy (nd h.bt).symm (nd h.fd).symm (nd h.mr).symm (nd h.lf).symm]; exact hdf
    have hsep : ∀ x, P' x → w.heap.size ≤ x ∧ x < (S.putObj yl (.loop { rec .ready none with state := if jump.isNone then .ready else .done, pending := jump })).heap.size := fun x hx => by rw [World.putObj_size, hr.size]; exact (hP' x hx).2
    rcases hj with ⟨rfl, hj⟩ | ⟨rfl, hj⟩
    · refine Or.inl ⟨rfl, ⟨_, _, _, hbi⟩, hj, hPP _ hPy, hPP _ hPd, ?_, hd, hsep⟩
      rw [← hrec .ready none]; exact hy
    · refine Or.inr ⟨rfl, ⟨_, _, _, hbi⟩, hj, hPP _ hPy, hPP _ hPd, ?_, hd, hsep⟩
      rw [← hrec .done (some (.exit 0))]; exact hy
  · have h1 : Below w.heap.size w W3 := (hbe.grown (grownBy_putObj' W yl _) hbe.size (fun k e => by cases e; exact hwy)).trans (hb2.mono (by rw [World.putObj_size]; exact hbe.size))
    exact (hr.be h1).grown (grownBy_putObj' S yl _) (hr.be h1).size (fun k e => by cases e; exact hwy)
  · rw [World.putObj_size, hr.size]
    have := hb2.size
    rwa [World.putObj_size] at this
  · intro x hx hp
    exact rnd_same hb2 hr x hx (fun e => hp (e ▸ hPy)) (fun e => hp (e ▸ h.p1)) (fun e => hp (e ▸ h.p2)) (fun e => hp (e ▸ h.p3)) (fun e => hp (e ▸ h.p4))
  · intro x hx
    rw [World.putObj_size, hr.size]
    exact hP' x hx

/-- The best so far lies on, where nothing better came. -/
theorem rows_keep {w W W3 S : World} {J K D N yl : Nat} {v ov tv ov' tv' : Value} {ps : List (List Hx.Stp)} {pre : List (List Nat × Bool)} {P : Nat → Prop} {en en' lf : Int} {fd mr : Bool} {L : Loop} {o1 o2 : Obj} {b : Hx.Bst}
    (h : BI w J K D v ps N pre P W ov tv en) (hl : W.heap[yl]? = some (.loop L)) (hb2 : Below (W.putObj yl o1).heap.size (W.putObj yl o1) W3) (hr : Rnd w W3 S ov' tv' en' fd mr lf) (hb : Hx.bestF J D ps (pre.map (·.1)) = some b) :
    en = b.e ∧ Trns (S.putObj yl o2) w.heap.size ov (b.o.map (Hx.turnOfIdx ps)) ∧ (S.putObj yl o2).ownsRow (w.heap.size + 1 + 1 + 1 + 1 + 1) 3 1 tv b.o.length (intCells b.o.length b.f) ∧ (∀ x, ov.ownBlock = some x → P x) ∧ (∀ x, tv.ownBlock = some x → P x) := by
  obtain ⟨h1, h2, h3, h4, h5⟩ := h.yes b hb
  have hrow : ∀ {base n size : Nat} {e : TypeId} {u : Value} {xs : List Value}, W.ownsRow base e size u n xs → ∀ x, u.ownBlock = some x → x ≠ yl := fun hr x hx => by
    rcases hr.2 with ⟨e, _⟩ | ⟨g, cap, cur, e, _, h4, _⟩
    · subst e; cases hx
    · subst e; cases hx
      intro e
      rw [← e, h4] at hl; cases hl
  refine ⟨h1, own_of_kept h2 fun x hx => ?_, own_of_kept h3 fun x hx => ?_, h4, h5⟩
  · exact rnd_same hb2 hr x (h2.lt x hx).2 (hrow h2 x hx) (row_ty h2 h.bt (by decide) x hx) (row_ty h2 h.fd (by decide) x hx) (row_ty h2 h.mr (by decide) x hx) (row_ty h2 h.lf (by decide) x hx)
  · have hb := (h3.lt x hx).1
    exact rnd_same hb2 hr x (h3.lt x hx).2 (hrow h3 x hx) (by omega) (by omega) (by omega) (by omega)
/-- The best anew. -/
theorem rows_new {w W W2 S : World} {J K D N yl gt : Nat} {v ov tv ov' tv' sv : Value} {ps : List (List Hx.Stp)} {pre : List (List Nat × Bool)} {P : Nat → Prop} {en en' lf : Int} {fd mr : Bool} {L : Loop} {o1 o2 tblk : Obj} {o : List Nat} {f : Nat → Int}
    (h : BI w J K D v ps N pre P W ov tv en) (hl : W.heap[yl]? = some (.loop L)) (hPy : P yl) (hb2 : Below (W.putObj yl o1).heap.size (W.putObj yl o1) W2) (hr : Rnd w (W2.alloc tblk) S ov' tv' en' fd mr lf) (hsv : Trns W w.heap.size sv (o.map (Hx.turnOfIdx ps))) (hsb : ∀ x, sv.ownBlock = some x → ¬ P x)
    (hrow : W2.ownsRow (W.putObj yl o1).heap.size 3 1 (.slice (some ⟨gt, 0, none⟩) o.length o.length) o.length (intCells o.length f)) :
    Trns (S.putObj yl o2) w.heap.size sv (o.map (Hx.turnOfIdx ps)) ∧ (S.putObj yl o2).ownsRow (w.heap.size + 1 + 1 + 1 + 1 + 1) 3 1 (.slice (some ⟨gt, 0, none⟩) o.length o.length) o.length (intCells o.length f) := by
  have hgt1 : W.heap.size ≤ gt := by have := (hrow.lt gt rfl).1; rwa [World.putObj_size] at this
  have hgt2 := (hrow.lt gt rfl).2
  have hlf := lt_of_block h.lf
  have hyl := lt_of_block hl
  refine ⟨own_of_kept hsv fun x hx => ?_, own_of_kept (own_mono hrow (by rw [World.putObj_size]; omega)) fun x hx => ?_⟩
  · have hn := hsb x hx
    exact rnd_same (belA tblk hb2) hr x (hsv.lt x hx).2 (fun e => hn (e ▸ hPy)) (fun e => hn (e ▸ h.p1)) (fun e => hn (e ▸ h.p2)) (fun e => hn (e ▸ h.p3)) (fun e => hn (e ▸ h.p4))
  · cases hx
    show (S.putObj yl o2).heap[gt]? = W2.heap[gt]?
    rw [World.putObj_heap_other (by omega), hr.ot gt (by omega) (by omega) (by omega) (by omega), Below.heap_alloc W2 tblk gt hgt2]

end Go.Proofs.YtppcnlkhdgmaiaaDoor
