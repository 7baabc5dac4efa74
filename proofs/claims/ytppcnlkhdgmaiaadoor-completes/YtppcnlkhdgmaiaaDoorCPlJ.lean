/- What the iterator's closure does: it goes on behind a beginning, order by order. -/
import Derived.Test.YtppcnlkhdgmaiaaDoorCPlB
import Derived.RangeFuncNested
import Derived.RangeFuncBound
import Derived.RangeFuncCalls
import Derived.RangeFuncLeaves
import Derived.Shelf.Abstract
import Derived.Shelf.RegionOpen
import Derived.OwnWalkIn
import Derived.TacticsInMore
import Derived.LoopNIn
import Derived.LoopIn
namespace Go.Proofs.YtppcnlkhdgmaiaaDoor
open Go.RowKit

attribute [local go_sem] Oper.semAt_some

/-- What the caller holds is not disturbed where its own blocks are left alone. -/
def Abide (Cl : List (List Nat × Bool) → (Nat → Prop) → World → Prop) : Prop := ∀ pre P W W', Cl pre P W → (∀ x, P x → W'.heap[x]? = W.heap[x]?) → W.heap.size ≤ W'.heap.size → Cl pre P W'

/-- What a round answers, and what it leaves alone. -/
def YRes (w : World) (Cl Clx : List (List Nat × Bool) → (Nat → Prop) → World → Prop) (pre : List (List Nat × Bool)) (P : Nat → Prop) (sb : Option Nat) (W : World) (e : Ending) (W' : World) : Prop :=
  ∃ P', ((e = .returned (.bool true) ∧ Cl pre P' W') ∨ (e = .returned (.bool false) ∧ Clx pre P' W')) ∧ Below w.heap.size w W' ∧ W.heap.size ≤ W'.heap.size ∧
    (∀ x, x < W.heap.size → ¬ P x → W'.heap[x]? = W.heap[x]?) ∧ (∀ x, P' x → (P x ∨ sb = some x ∨ W.heap.size ≤ x) ∧ w.heap.size ≤ x ∧ x < W'.heap.size)
def YSaid (w : World) (c : Cx) (yl : Nat) (Cl Clx : List (List Nat × Bool) → (Nat → Prop) → World → Prop) : Prop :=
  ∀ (m : Nat) (pre : List (List Nat × Bool)) (o : List Nat) (fl : Bool) (sv : Value) (P : Nat → Prop) (W : World), Cl pre P W → Below w.heap.size w W → Trns W w.heap.size sv (o.map (Hx.turnOfIdx c.ps)) → (∀ i ∈ o, i < (Hx.labs c.ps).length) → o.length = (Hx.labs c.ps).length → (∀ x, sv.ownBlock = some x → ¬ P x) →
    YieldAt Fence.wide m Tryd.prog yl #[sv, .bool fl] W (YRes w Cl Clx (pre ++ [(o, fl)]) P sv.ownBlock W)

/-- What is known of the protocol. -/
structure GoodC (c : Cx) : Prop where
  fine : Hx.Fine c.ps
  small : Hx.Small c.ps
  rests : ∀ q ∈ c.ps, ∀ x ∈ q, x.rest = true → 1 ≤ c.K
  pos : 0 < c.ps.length
  le : c.ps.length ≤ 4
  all : (Hx.labs c.ps).length ≤ 9
  j : c.J < 10
  k : c.K < 10
theorem GoodC.some {c : Cx} (h : GoodC c) : 0 < (Hx.labs c.ps).length := by
  refine Hx.labs_pos h.pos fun p hp => ?_
  obtain ⟨i, hi⟩ := List.getElem?_of_mem hp
  obtain ⟨x, r, e, _⟩ := h.fine i p hi
  rw [e]; simp

/-- What the closure answers behind a beginning. -/
def GoRes (w : World) (c : Cx) (Cl Clx : List (List Nat × Bool) → (Nat → Prop) → World → Prop) (pre fs : List (List Nat × Bool)) (ts : List Hx.Trn) (r : Int) (nx : Nat → Nat) (u : Nat) (mv : Value) (P : Nat → Prop) (W : World) (e : Ending) (W' : World) : Prop :=
  ∃ P' mv', It w c W' ts r nx u mv' P' ∧ Frm c W P mv W' P' mv' ∧
    ((e = .returned (.bool true) ∧ Cl (pre ++ fs) P' W') ∨ (e = .returned (.bool false) ∧ ∃ q, q <+: fs ∧ Clx (pre ++ q) P' W'))
def GoSaid (w : World) (c : Cx) (yl : Nat) (Cl Clx : List (List Nat × Bool) → (Nat → Prop) → World → Prop) (d : Nat) : Prop :=
  ∀ (pre : List (List Nat × Bool)) (l : List Nat) (r : Int) (nx : Nat → Nat) (u : Nat) (mv : Value) (P : Nat → Prop) (W : World), It w c W (l.map (Hx.turnOfIdx c.ps)) r nx u mv P → Cl pre P W → Hx.endS c.K (Hx.labs c.ps) l 0 (fun _ => 0) = some (r, nx) → (∀ i ∈ l, i < (Hx.labs c.ps).length) → l.length + d = (Hx.labs c.ps).length → u + 4 * d ≤ 1000 →
    Calls Tryd.prog 68 (#[.func (.yield yl) #[] #[]] ++ c.ptrs) W (GoRes w c Cl Clx pre (Hx.flagL (Hx.allO c.K (Hx.labs c.ps) d l) u) (l.map (Hx.turnOfIdx c.ps)) r nx u mv P W)

theorem It.plts {w W : World} {c : Cx} {ts : List Hx.Trn} {r : Int} {nx : Nat → Nat} {u : Nat} {mv : Value} {P : Nat → Prop} {base : Nat} (h : It w c W ts r nx u mv P) (hp : Plts w base c.v c.ps) : Plts W base c.v c.ps := hp.below h.be

theorem own_of_kept {w w' : World} {base n size : Nat} {e : TypeId} {v : Value} {xs : List Value} (h : w.ownsRow base e size v n xs) (hk : ∀ x, v.ownBlock = some x → w'.heap[x]? = w.heap[x]?) : w'.ownsRow base e size v n xs := by
  rcases h with ⟨h1, ⟨e1, e2⟩ | ⟨g, cap, cur, rfl, h2, h3, h4⟩⟩
  · exact ⟨h1, Or.inl ⟨e1, e2⟩⟩
  · exact ⟨h1, Or.inr ⟨g, cap, cur, rfl, h2, (hk g rfl).trans h3, h4⟩⟩

/-- The one call of yield, at a whole order. -/
theorem leaf_yield {w : World} {c : Cx} {yl : Nat} {Cl Clx : List (List Nat × Bool) → (Nat → Prop) → World → Prop} {pre : List (List Nat × Bool)} {l : List Nat} {ts : List Hx.Trn} {r : Int} {nx : Nat → Nat} {u : Nat} {mv sv : Value} {P : Nat → Prop} {W1 W2 : World}
    (hY : YSaid w c yl Cl Clx) (hit : It w c W1 ts r nx u mv P) (hcl : Cl pre P W1) (hab : Abide Cl) (hsv : Trns W2 W1.heap.size sv ts) (hb : Below W1.heap.size W1 W2) (hts : ts = l.map (Hx.turnOfIdx c.ps)) (hin : ∀ i ∈ l, i < (Hx.labs c.ps).length) (hlen : l.length + 0 = (Hx.labs c.ps).length) (m : Nat) :
    YieldAt Fence.wide m Tryd.prog yl #[sv, .bool (decide (0 < u))] W2 fun e W3 => ∃ bb, e = .returned (.bool bb) ∧
      GoRes w c Cl Clx pre (Hx.flagL (Hx.allO c.K (Hx.labs c.ps) 0 l) u) ts r nx u mv P W1 (.returned (.bool bb)) W3 := by
  have hfl : Hx.flagL (Hx.allO c.K (Hx.labs c.ps) 0 l) u = [(l, decide (0 < u))] := rfl
  have hit2 := hit.below hb
  have hcl2 : Cl pre P W2 := hab pre P W1 W2 hcl (fun x hx => hb.block x (hit.sep x hx).2.1) hb.size
  have hsb : ∀ x, sv.ownBlock = some x → ¬ P x := fun x hx hp => by
    have h1 := (hsv.lt x hx).1
    have h2 := (hit.sep x hp).2.1
    omega
  refine YieldAt.mono (hY m pre l (decide (0 < u)) sv P W2 hcl2 hit2.be (by rw [← hts]; exact own_mono hsv hit.be.size) hin (by omega) hsb) ?_
  rintro e W3 ⟨P', hce, hbe, hsz, hk, hp'⟩
  have hex : ∃ bb, e = .returned (.bool bb) := by
    rcases hce with ⟨rfl, _⟩ | ⟨rfl, _⟩
    · exact ⟨true, rfl⟩
    · exact ⟨false, rfl⟩
  obtain ⟨bb, rfl⟩ := hex
  refine ⟨bb, rfl, P', mv, ?_, ?_, ?_⟩
  · have kb : ∀ {x : Nat} {y : Array Value} {t : TypeId} {f : Nat × Nat}, W2.heap[x]? = some (.cells y t f) → ¬ P x → W3.heap[x]? = some (.cells y t f) := fun hx hn => (hk _ (lt_of_block hx) hn).trans hx
    have np : ∀ {x : Nat}, (∀ y, P y → y ≠ x) → ¬ P x := fun h hx => h _ hx rfl
    have hg : ∀ {base n size : Nat} {e : TypeId} {v : Value} {xs : List Value}, W2.ownsRow base e size v n xs → (∀ x, v.ownBlock = some x → ¬ P x) → W3.ownsRow base e size v n xs := fun h hn => own_of_kept h (fun x hx => hk x (h.lt x hx).2 (hn x hx))
    refine ⟨hbe, kb hit2.cp (np fun y hy => (hit2.sep y hy).2.2.1), kb hit2.cd (np fun y hy => (hit2.sep y hy).2.2.2.1), hg hit2.rd (fun x hx => by cases hx; exact np fun y hy => (hit2.sep y hy).2.2.2.2.2.2.2.2.1), kb hit2.cr (np fun y hy => (hit2.sep y hy).2.2.2.2.1), kb hit2.cm (np fun y hy => (hit2.sep y hy).2.2.2.2.2.1),
      hg hit2.rm (fun x hx hp => (hit2.sep x hp).2.2.2.2.2.2.2.2.2 hx), kb hit2.cu (np fun y hy => (hit2.sep y hy).2.2.2.2.2.2.1), kb hit2.cg (np fun y hy => (hit2.sep y hy).2.2.2.2.2.2.2.1), hit2.lo, hit2.ne, fun x hx => ?_⟩
    obtain ⟨h1, h2, h3⟩ := hp' x hx
    have hnew : P x ∨ W1.heap.size ≤ x := by
      rcases h1 with h1 | h1 | h1
      · exact Or.inl h1
      · exact Or.inr (hsv.lt x h1).1
      · exact Or.inr (Nat.le_trans hb.size h1)
    refine ⟨h2, h3, ?_⟩
    rcases hnew with hp | hp
    · exact (hit2.sep x hp).2.2
    · have q1 := lt_of_block hit.cp
      have q2 := lt_of_block hit.cd
      have q3 := lt_of_block hit.cr
      have q4 := lt_of_block hit.cm
      have q5 := lt_of_block hit.cu
      have q6 := lt_of_block hit.cg
      have q7 := (hit.rd.lt c.b.gd rfl).2
      refine ⟨by omega, by omega, by omega, by omega, by omega, by omega, by omega, fun e => ?_⟩
      have := (hit.rm.lt x e).2
      omega
  · refine ⟨Nat.le_trans hb.size hsz, fun x hx hp _ _ _ _ _ => (hk x (Nat.lt_of_lt_of_le hx hb.size) hp).trans (hb.block x hx), fun x hx => ?_, fun x hx => Or.inl hx⟩
    rcases (hp' x hx).1 with h1 | h1 | h1
    · exact Or.inl h1
    · exact Or.inr (hsv.lt x h1).1
    · exact Or.inr (Nat.le_trans hb.size h1)
  · rw [hfl]
    rcases hce with ⟨e, h⟩ | ⟨e, h⟩
    · exact Or.inl ⟨e, h⟩
    · exact Or.inr ⟨e, _, List.prefix_refl _, h⟩

set_option maxRecDepth 100000 in
set_option maxHeartbeats 8000000 in
theorem go_leaf (w : World) (c : Cx) (yl base : Nat) (Cl Clx : List (List Nat × Bool) → (Nat → Prop) → World → Prop) (hps : Plts w base c.v c.ps) (hgood : GoodC c) (hab : Abide Cl) (hY : YSaid w c yl Cl Clx) : GoSaid w c yl Cl Clx 0 := by
  intro pre l r nx u mv P W hit hcl hend hin hlen hu
  have hsf : Hx.Sofar c.K c.ps l r nx := by simpa using Hx.Sofar.of_end hgood.fine l [] 0 _ r nx (Hx.Sofar.start c.K hgood.fine) hend
  have hnil : Hx.nxtF c.K c.ps r nx = [] := Hx.nxtF_nil hsf (by omega)
  have hpos := hgood.some
  have hl0 : 0 < (l.map (Hx.turnOfIdx c.ps)).length := by rw [List.length_map]; omega
  have hl9 : (l.map (Hx.turnOfIdx c.ps)).length ≤ 1000 := by rw [List.length_map]; have := hgood.all; omega
  have hr1 : -1000 ≤ r ∧ r ≤ 1000 := by
    have h1 := hsf.top
    have h2 := hgood.k
    have h3 := hsf.rst
    have h4 : 0 ≤ r := by
      rw [← h3]
      have := Hx.sumR_le (f := fun _ => 0) (g := fun p => if Hx.under c.ps nx p then 1 else 0) c.ps.length (fun a _ => by split <;> simp)
      have h5 : ∀ m, Hx.sumR (fun _ => 0) m = 0 := fun m => by induction m with | zero => rfl | succ m ih => rw [Hx.sumR, ih]; rfl
      rw [h5] at this; exact this
    constructor <;> omega
  have HIT := hide hit
  have HCL := hide hcl
  have HIN := hide hin
  have HSF := hide hsf
  have HNIL := hide hnil
  have HPS := hide hps
  have HGOOD := hide hgood
  have HAB := hide hab
  have HY := hide hY
  obtain ⟨ts, hts⟩ : ∃ ts, ts = l.map (Hx.turnOfIdx c.ps) := ⟨_, rfl⟩
  have hpsn := hgood.pos
  have hps4 := hgood.le
  rw [← hts] at hl0 hl9 HIT ⊢
  have HTS := hide hts
  have HLEN := hide hlen
  clear hit hcl hend hin hsf hnil hps hgood hab hY hts hlen
  obtain ⟨J, K, D, v, ps, b⟩ := c
  obtain ⟨ao, capv, rfl⟩ : ∃ ao cap, v = .slice ao ps.length cap := by
    obtain ⟨vs, h1, _⟩ := unhide HPS
    exact own_form h1
  have p0 : W.cell? ⟨b.p, 0, none⟩ = some (.int .i64 (J : Int)) := blk_cell (unhide HIT).cp 0
  have p1 : W.cell? ⟨b.p, 1, none⟩ = some (.int .i64 (K : Int)) := blk_cell (unhide HIT).cp 1
  have p2 : W.cell? ⟨b.p, 2, none⟩ = some (.int .i64 (D : Int)) := blk_cell (unhide HIT).cp 2
  have p3 : W.cell? ⟨b.p, 3, none⟩ = some (.slice ao ps.length capv) := blk_cell (unhide HIT).cp 3
  have d0 : W.cell? ⟨b.d, 0, none⟩ = some (.slice (some ⟨b.gd, 0, none⟩) ps.length ps.length) := blk_cell (unhide HIT).cd 0
  have r0 : W.cell? ⟨b.r, 0, none⟩ = some (.int .i64 r) := blk_cell (unhide HIT).cr 0
  have hargs : #[Value.func (.yield yl) #[] #[]] ++ Cx.ptrs ⟨J, K, D, .slice ao ps.length capv, ps, b⟩ = #[.func (.yield yl) #[] #[], .pointer (some ⟨b.p, 0, none⟩), .pointer (some ⟨b.d, 0, none⟩), .pointer (some ⟨b.r, 0, none⟩), .pointer (some ⟨b.m, 0, none⟩), .pointer (some ⟨b.u, 0, none⟩), .pointer (some ⟨b.g, 0, none⟩)] := rfl
  rw [hargs]
  clear hargs
  generalize hR : GoRes w ⟨J, K, D, .slice ao ps.length capv, ps, b⟩ Cl Clx pre (Hx.flagL (Hx.allO K (Hx.labs ps) 0 l) u) ts r nx u mv P W = R
  have HR := hide hR
  clear hR
  go_enter Tryd.func68, Tryd.ntmps68
  go_wp2_with fail
  refine (next_any J K D _ _ base ps r nx _ ((unhide HIT).plts (unhide HPS)) hpsn (by show ps.length ≤ 121; have : ps.length ≤ 4 := hps4; omega) (unhide HGOOD).fine (unhide HIT).rd (unhide HSF).le hr1.1 hr1.2).mono ?_
  rintro e W1 ⟨nv, rfl, hnv, hb1⟩
  have hnil' : Hx.nxtF K ps r nx = [] := unhide HNIL
  rw [hnil'] at hnv
  obtain ⟨an, capn, rfl⟩ := own_form hnv
  have HIT1 := hide ((unhide HIT).below hb1)
  have HCL1 : Hid (Cl pre P W1) := unhide HAB pre P W W1 (unhide HCL) (fun x hx => hb1.block x ((unhide HIT).sep x hx).2.1) hb1.size
  have HF1 : Hid (Frm ⟨J, K, D, .slice ao ps.length capv, ps, b⟩ W P mv W1 P mv) := Frm.below P mv hb1
  clear hnv hb1 p0 p1 p2 p3 d0 r0 hnil'
  obtain ⟨gm, capm, rfl, _, hgm⟩ := own_pos (unhide HIT1).rm hl0
  have m0 : W1.cell? ⟨b.m, 0, none⟩ = some (.slice (some ⟨gm, 0, none⟩) ts.length capm) := blk_cell (unhide HIT1).cm 0
  have u0 : W1.cell? ⟨b.u, 0, none⟩ = some (.int .i64 (u : Int)) := blk_cell (unhide HIT1).cu 0
  go_wp2_with fail
  have hfo : Tryd.prog.follows .mixedOrders = true := by kernel_rfl
  refine (wpIn_wide (n := 5)).1 ?_
  gi_region_with_o (first
    | ((try refine ⟨by simp [Fence.wide], ?_⟩); gi_at_call 70; refine (callsIn_wide.2 (clone_any _ ts _ ?_ hl0 hl9)).mono ?_; (exact (unhide HIT1).rm); rintro e W2 ⟨sv, rfl, hsv, hb2⟩; have u2 : W2.cell? ⟨b.u, 0, none⟩ = some (.int .i64 (u : Int)) := (hb2.cell (p := ⟨b.u, 0, none⟩) (lt_of_block (unhide HIT1).cu)).trans u0; have HB2 := hide hb2; have HSV := hide hsv; obtain ⟨fn, tmps, assign, body, hy, hR⟩ := leaf_yield (unhide HY) (unhide HIT1) (unhide HCL1) (unhide HAB) hsv ((Below.refl W1.heap.size W1).drew.trans hb2) (unhide HTS) (unhide HIN) (unhide HLEN) (5 - 1); clear hsv hb2)
    | ((try refine ⟨by simp, ?_⟩); refine hR.mono ?_; clear hR; rintro e W3 ⟨bb, rfl, hres⟩))
  all_goals
    have HRES := hide hres
    clear hres
    go_wp2_with fail
    go_returns
    rw [← unhide HR]
    obtain ⟨P', mv', h1, h2, h3⟩ := unhide HRES
    exact ⟨P', mv', h1, (unhide HF1).trans h2, h3⟩

end Go.Proofs.YtppcnlkhdgmaiaaDoor
