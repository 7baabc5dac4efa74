/- What the iterator does, whole: what orders answers, and what the function over yield that it answers does. -/
import Derived.Test.YtppcnlkhdgmaiaaDoorCPlL
import Derived.Laws.EntriesVeiled
namespace Go.Proofs.YtppcnlkhdgmaiaaDoor
open Go.RowKit

theorem go_any (w : World) (c : Cx) (yl base : Nat) (Cl Clx : List (List Nat × Bool) → (Nat → Prop) → World → Prop) (hps : Plts w base c.v c.ps) (hgood : GoodC c) (hab : Abide Cl) (habx : Abide Clx) (hY : YSaid w c yl Cl Clx) : ∀ d, GoSaid w c yl Cl Clx d
  | 0 => go_leaf w c yl base Cl Clx hps hgood hab hY
  | d + 1 => go_node w c yl base d Cl Clx hps hgood hab habx (go_any w c yl base Cl Clx hps hgood hab habx hY d)

/-- All orders, the least first, with the word whether another follows. -/
def Hx.ordersF (K : Nat) (ps : List (List Hx.Stp)) : List (List Nat × Bool) := Hx.flagL (Hx.allO K (Hx.labs ps) (Hx.labs ps).length []) 0

set_option maxRecDepth 100000 in
set_option maxHeartbeats 2000000 in
theorem seq_any (w : World) (c : Cx) (yl base : Nat) (Cl Clx : List (List Nat × Bool) → (Nat → Prop) → World → Prop) (hps : Plts w base c.v c.ps) (hgood : GoodC c) (hab : Abide Cl) (habx : Abide Clx) (hY : YSaid w c yl Cl Clx)
    (P : Nat → Prop) (W : World) (hit : It w c W [] 0 (fun _ => 0) 0 (.slice none 0 0) P) (hcl : Cl [] P W) :
    Calls Tryd.prog 72 #[.func (.yield yl) #[] #[], .pointer (some ⟨c.b.g, 0, none⟩)] W fun e W' => (∃ v, e = .returned v) ∧ Below w.heap.size w W' ∧ ∃ P', (Cl (Hx.ordersF c.K c.ps) P' W' ∨ ∃ q, q <+: Hx.ordersF c.K c.ps ∧ Clx q P' W') := by
  have hgo := go_any w c yl base Cl Clx hps hgood hab habx hY (Hx.labs c.ps).length [] [] 0 (fun _ => 0) 0 (.slice none 0 0) P W (by simpa using hit) hcl rfl (by simp) (by simp) (by have := hgood.all; omega)
  have hargs : #[Value.func (.yield yl) #[] #[]] ++ c.ptrs = #[.func (.yield yl) #[] #[], .pointer (some ⟨c.b.p, 0, none⟩), .pointer (some ⟨c.b.d, 0, none⟩), .pointer (some ⟨c.b.r, 0, none⟩), .pointer (some ⟨c.b.m, 0, none⟩), .pointer (some ⟨c.b.u, 0, none⟩), .pointer (some ⟨c.b.g, 0, none⟩)] := rfl
  rw [hargs] at hgo
  have HGO := hide hgo
  have g0 : W.cell? ⟨c.b.g, 0, none⟩ = some (.func (.func 68) #[] #[.pointer (some ⟨c.b.p, 0, none⟩), .pointer (some ⟨c.b.d, 0, none⟩), .pointer (some ⟨c.b.r, 0, none⟩), .pointer (some ⟨c.b.m, 0, none⟩), .pointer (some ⟨c.b.u, 0, none⟩), .pointer (some ⟨c.b.g, 0, none⟩)]) := blk_cell hit.cg 0
  clear hgo hargs hit hcl hps hgood hab habx hY
  go_enter Tryd.func72, Tryd.ntmps72
  go_wp2_with fail
  refine (unhide HGO).mono ?_
  rintro e W' ⟨P', mv', h1, h2, h3⟩
  have H1 := hide h1
  have H3 := hide h3
  obtain ⟨bb, rfl⟩ : ∃ bb, e = .returned (.bool bb) := by
    rcases h3 with ⟨rfl, _⟩ | ⟨rfl, _⟩
    · exact ⟨true, rfl⟩
    · exact ⟨false, rfl⟩
  clear h1 h2 h3
  go_wp2_with fail
  go_end0
  refine ⟨⟨_, rfl⟩, (unhide H1).be, P', ?_⟩
  rcases unhide H3 with ⟨_, h⟩ | ⟨_, q, hq, h⟩
  · exact Or.inl (by simpa [Hx.ordersF] using h)
  · exact Or.inr ⟨q, by simpa [Hx.ordersF] using hq, by simpa using h⟩

set_option maxRecDepth 100000 in
set_option maxHeartbeats 4000000 in
theorem orders47_any (w W : World) (J K D base : Nat) (v : Value) (ps : List (List Hx.Stp)) (hps : Plts w base v ps) (hn : 0 < ps.length) (hl : ps.length ≤ 121) (hbe : Below w.heap.size w W) (P : Nat → Prop) (hP : ∀ x, P x → w.heap.size ≤ x ∧ x < W.heap.size) :
    Calls Tryd.prog 50 #[.agg #[.int .i64 (J : Int), .int .i64 (K : Int), .int .i64 (D : Int), v]] W fun e W' => ∃ b : Bk, e = .returned (.func (.func 72) #[] #[.pointer (some ⟨b.g, 0, none⟩)]) ∧ It w ⟨J, K, D, v, ps, b⟩ W' [] 0 (fun _ => 0) 0 (.slice none 0 0) P ∧ Below W.heap.size W W' := by
  obtain ⟨ao, capv, rfl⟩ : ∃ ao cap, v = .slice ao ps.length cap := by
    obtain ⟨vs, h1, _⟩ := hps
    exact own_form h1
  obtain ⟨i3, hi3, hz30, hz31, hz32⟩ := info_parts Tryd.info3
  have HI3 := hide hi3
  have HZ30 := hide hz30
  have HZ31 := hide hz31
  have HZ32 := hide hz32
  have HP := hide hP
  have HBE := hide hbe
  have hmf : ∀ (fn : Fn) (first cap : Array Value) (w : World), (Instr.makeFunc fn first cap).run Tryd.prog w = .ok (.func fn first cap) w := fun _ _ _ _ => rfl
  clear hps hi3 hz30 hz31 hz32 hP hbe
  go_enter Tryd.func50, Tryd.ntmps50
  go_wp2_with (at_make; refine wpList_make_full _ rfl _ _ 49 rfl 0 3 i3 (.int .i64 0) 1 Tryd.underlying49 (unhide HI3) (unhide HZ30) (unhide HZ31) _ _ _ _ ps.length rfl rfl (by simp) (by simp) (by rw [unhide HZ32]; omega) (by unfold maxLen; omega) (Nat.zero_le _) ?_; intro w1 hown1 hgrow1)
  have HOWN := hide hown1
  have HG1 := hide hgrow1
  clear hown1 hgrow1
  go_wp2_with fail
  go_returns
  have hsz0 : ((W.alloc (.cells #[.int .i64 (J : Int), .int .i64 (K : Int), .int .i64 (D : Int), .slice ao ps.length capv] 75)).alloc (.cells #[.slice none 0 0] 87)).heap.size = W.heap.size + 1 + 1 := by simp
  have hown := unhide HOWN
  have hg1 := unhide HG1
  rw [hsz0, intCells_made] at hown
  have hs1 : W.heap.size + 1 + 1 < w1.heap.size := (hown.lt _ rfl).2
  have hrow : w1.ownsRow 0 3 1 (.slice (some ⟨W.heap.size + 1 + 1, 0, none⟩) ps.length ps.length) ps.length (natCells ps.length (fun _ => 0)) := hown
  have c65 := blk_kept (bA (.cells #[.slice none 0 0] 87) (blk_new W #[.int .i64 (J : Int), .int .i64 (K : Int), .int .i64 (D : Int), .slice ao ps.length capv] 75)) hg1 (by simp)
  have c77 : w1.heap[W.heap.size + 1]? = some (.cells #[.slice none 0 0] 87 (0, 0)) := blk_kept (bN _ _ (by simp)) hg1 (by simp)
  have hbw : Below W.heap.size W w1 := (belA _ (belA _ (Below.refl _ _))).grown hg1 (by simp; omega) (fun k e => by cases e)
  refine ⟨⟨W.heap.size, w1.heap.size, w1.heap.size + 1, W.heap.size + 1, w1.heap.size + 1 + 1, w1.heap.size + 1 + 1 + 1, W.heap.size + 1 + 1⟩, rfl, ⟨?_, ?_, ?_, ?_, ?_, ?_, World.ownsRow_nil _ _ _ _, ?_, ?_, ?_, ?_, fun x hx => ?_⟩, ?_⟩
  · exact (unhide HBE).trans ((belA _ (belA _ (belA _ (belA _ hbw)))).mono (unhide HBE).size)
  · exact bA _ (bA _ (bA _ (bA _ c65)))
  · exact bA _ (bA _ (bA _ (blk_new w1 _ _)))
  · exact (((hrow.alloc _).alloc _).alloc _).alloc _
  · exact bA _ (bA _ (bN _ _ (by simp)))
  · exact bA _ (bA _ (bA _ (bA _ c77)))
  · exact bA _ (bN _ _ (by simp))
  · exact bN _ _ (by simp)
  · have := (unhide HBE).size
    refine ⟨?_, ?_, ?_, ?_, fun x hx => by cases hx⟩ <;> (simp only; omega)
  · refine ⟨?_, ?_, ?_⟩ <;> (simp only; omega)
  · obtain ⟨h1, h2⟩ := unhide HP x hx
    refine ⟨h1, ?_, ?_, ?_, ?_, ?_, ?_, ?_, ?_, fun e => by cases e⟩
    · have := hbw.size; simp; omega
    all_goals (simp only; omega)
  · exact belA _ (belA _ (belA _ (belA _ hbw)))

end Go.Proofs.YtppcnlkhdgmaiaaDoor
