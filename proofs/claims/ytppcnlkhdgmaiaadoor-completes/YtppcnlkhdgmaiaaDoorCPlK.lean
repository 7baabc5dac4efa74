/- What the iterator's closure does behind a beginning to which steps are left. -/
import Derived.Test.YtppcnlkhdgmaiaaDoorCPlJ
namespace Go.Proofs.YtppcnlkhdgmaiaaDoor
open Go.RowKit

/-- What a round of the closure's own loop holds: the turns that may come next, and the one that is tried. -/
structure Loc (W : World) (nv : Value) (next : List Hx.Trn) (tb : Nat) (t : Hx.Trn) (P : Nat → Prop) (mv : Value) : Prop where
  row : Trns W 0 nv next
  blk : W.heap[tb]? = some (.cells #[.int .i64 (t.x.lo : Int), .int .i64 (t.x.hi : Int), .bool t.x.rest, .int .i64 (t.x.mn : Int), .int .i64 (t.x.mx : Int), .int .i64 (t.pl : Int), .int .i64 (t.no : Int), .bool t.beg] 83 (0, 0))
  fr : ¬ P tb ∧ mv.ownBlock ≠ some tb
  fn : ∀ x, nv.ownBlock = some x → ¬ P x ∧ mv.ownBlock ≠ some x

variable {w W W' : World} {c : Cx} {ts : List Hx.Trn} {r : Int} {nx : Nat → Nat} {u : Nat} {mv mv' nv : Value} {P P' : Nat → Prop} {next : List Hx.Trn} {t : Hx.Trn} {tb : Nat}

theorem row_frm {base : Nat} (hit : It w c W ts r nx u mv P) (hf : Frm c W P mv W' P' mv') (h : Trns W base nv next) (hfn : ∀ x, nv.ownBlock = some x → ¬ P x ∧ mv.ownBlock ≠ some x) : Trns W' base nv next ∧ ∀ x, nv.ownBlock = some x → ¬ P' x ∧ mv'.ownBlock ≠ some x := by
  obtain ⟨cur, hgd⟩ := hit.gdlt
  refine ⟨own_of_kept h fun x hx => ?_, fun x hx => ?_⟩
  · exact hf.keep x (h.lt x hx).2 (hfn x hx).1 (row_ty h hit.cr (by decide) x hx) (row_ty h hit.cm (by decide) x hx) (row_ty h hit.cu (by decide) x hx) (row_ty h hgd (by decide) x hx) (hfn x hx).2
  · have hlt := (h.lt x hx).2
    refine ⟨fun hp => ?_, fun e => ?_⟩
    · rcases hf.pn x hp with h1 | h1
      · exact (hfn x hx).1 h1
      · omega
    · rcases hf.mn x e with h1 | h1
      · exact (hfn x hx).2 h1
      · omega
theorem Loc.frm (h : Loc W nv next tb t P mv) (hit : It w c W ts r nx u mv P) (hf : Frm c W P mv W' P' mv') : Loc W' nv next tb t P' mv' := by
  obtain ⟨cur, hgd⟩ := hit.gdlt
  obtain ⟨r1, r2⟩ := row_frm hit hf h.row h.fn
  have hlt := lt_of_block h.blk
  refine ⟨r1, ?_, ⟨fun hp => ?_, fun e => ?_⟩, r2⟩
  · exact (hf.keep tb hlt h.fr.1 (blk_ty h.blk hit.cr (by decide)) (blk_ty h.blk hit.cm (by decide)) (blk_ty h.blk hit.cu (by decide)) (blk_ty h.blk hgd (by decide)) h.fr.2).trans h.blk
  · rcases hf.pn tb hp with h1 | h1
    · exact h.fr.1 h1
    · omega
  · rcases hf.mn tb e with h1 | h1
    · exact h.fr.2 h1
    · omega

namespace Hx
theorem flat_congr {α β : Type} {f g : α → List β} : ∀ (l : List α), (∀ x ∈ l, f x = g x) → l.flatMap f = l.flatMap g
  | [], _ => rfl
  | x :: r, h => by rw [List.flatMap_cons, List.flatMap_cons, h x (by simp), flat_congr r (fun y hy => h y (by simp [hy]))]
theorem range_pre {β : Type} (f : Nat → List β) (i k : Nat) : (List.range i).flatMap f <+: (List.range (i + k)).flatMap f := by
  rw [List.range_add, List.flatMap_append]; exact List.prefix_append _ _
/-- What the first children bring. -/
def partF (K : Nat) (ps : List (List Stp)) (d : Nat) (l : List Nat) (u : Nat) (next : List Trn) (i : Nat) : List (List Nat × Bool) :=
  (List.range i).flatMap fun j => match next[j]? with | some t => flagL (allO K (labs ps) d (l ++ [idxT ps t])) (u + (next.length - 1 - j)) | none => []
theorem partF_succ {K : Nat} {ps : List (List Stp)} {d : Nat} {l : List Nat} {u : Nat} {next : List Trn} {i : Nat} {t : Trn} (h : next[i]? = some t) :
    partF K ps d l u next (i + 1) = partF K ps d l u next i ++ flagL (allO K (labs ps) d (l ++ [idxT ps t])) (u + (next.length - 1 - i)) := by
  unfold partF
  rw [List.range_succ, List.flatMap_append]
  simp [h]
theorem flagL_flat (u : Nat) (f : Trn → List (List Nat)) : ∀ (next : List Trn), (∀ t ∈ next, f t ≠ []) → flagL (next.flatMap f) u = (List.range next.length).flatMap fun j => match next[j]? with | some t => flagL (f t) (u + (next.length - 1 - j)) | none => []
  | [], _ => rfl
  | [t], _ => by simp
  | t :: s :: r, h => by
    have ih := flagL_flat u f (s :: r) (fun x hx => h x (by simp [hx]))
    have hne : (s :: r).flatMap f ≠ [] := by
      intro e
      rw [List.flatMap_cons] at e
      exact h s (by simp) (List.append_eq_nil_iff.1 e).1
    rw [List.flatMap_cons, flagL_append u hne, ih]
    have hl : (t :: s :: r).length = (s :: r).length + 1 := rfl
    rw [hl, List.range_succ_eq_map, List.flatMap_cons, List.flatMap_map]
    congr 1
    · simp only [List.getElem?_cons_zero]
      have hp : 0 < u + ((s :: r).length + 1 - 1 - 0) := by simp only [List.length_cons]; omega
      rw [flagL_pos hp]
    · apply flat_congr
      intro j hj
      have hj' : j < (s :: r).length := by simpa using hj
      simp only [List.getElem?_cons_succ]
      have e : (s :: r).length - 1 - j = (s :: r).length + 1 - 1 - (j + 1) := by omega
      rw [e]
theorem partF_all {K : Nat} {ps : List (List Stp)} {d : Nat} {l : List Nat} {u : Nat} {r : Int} {nx : Nat → Nat} (hf : Fine ps) (he : endS K (labs ps) l 0 (fun _ => 0) = some (r, nx)) (hK : ∀ q ∈ ps, ∀ x ∈ q, x.rest = true → 1 ≤ K) (hlen : l.length + (d + 1) = (labs ps).length) :
    partF K ps d l u (nxtF K ps r nx) (nxtF K ps r nx).length = flagL (allO K (labs ps) (d + 1) l) u := by
  rw [allO_next hf he, flagL_flat u]
  · rfl
  · intro t ht
    unfold nxtF at ht
    obtain ⟨p, hp, htt⟩ := List.mem_filterMap.1 ht
    obtain ⟨_, _, _, _, h5⟩ := nextAt_fit hf htt
    exact allO_ne hf hK d (l ++ [idxT ps t]) _ _ (by rw [endS_snoc, he]; exact h5) (by simp; omega)
theorem partF_pre {K : Nat} {ps : List (List Stp)} {d : Nat} {l : List Nat} {u : Nat} {next : List Trn} {i : Nat} (hi : i ≤ next.length) : partF K ps d l u next i <+: partF K ps d l u next next.length := by
  obtain ⟨k, hk⟩ : ∃ k, next.length = i + k := ⟨next.length - i, by omega⟩
  have := range_pre (fun j => match next[j]? with | some t => flagL (allO K (labs ps) d (l ++ [idxT ps t])) (u + (next.length - 1 - j)) | none => []) i k
  rw [← hk] at this
  exact this
end Hx

end Go.Proofs.YtppcnlkhdgmaiaaDoor
