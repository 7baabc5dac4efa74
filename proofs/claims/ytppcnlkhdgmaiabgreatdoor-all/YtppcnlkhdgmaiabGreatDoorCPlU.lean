/- The library's contracts at this program: the Builder's String, strconv.Itoa, bits.Mul, slices.Contains. What the program writes: lowestFree, bounds.write. What the program writes: bounds.write. What slices.Repeat does at one number. -/
import Derived.Shelf.Strings.Builder1
import Derived.Shelf.LaysM
import Derived.Shelf.Strconv.Itoa3
import Derived.Shelf.Bits.Mul64
import Derived.Shelf.Slices.Turned
import Derived.Test.YtppcnlkhdgmaiabGreatDoorProg
import Derived.Test.YtppcnlkhdgmaiabGreatDoorCPlA
import Derived.Lib.AppendIntMem
import Derived.Lib.SmallJoins
import Derived.Deep.RegionHeld3
import Derived.Test.YtppcnlkhdgmaiabGreatDoorCRfD
import Derived.Lib.ItoaLen
import Derived.Laws.CopyOwn
namespace Go.Proofs
open Go.Shelf
def Tryz.lays169_ren : Go.Shelf.Ren := ⟨fun | 169 => 52 | n => n, fun | 70 => 121 | 9 => 9 | 0 => 0 | 72 => 123 | 37 => 115 | 127 => 162 | 3 => 3 | 5 => 5 | n => n, fun | n => n⟩
theorem Tryz.lays169 : Go.Proofs.Lays.n169 Tryz.prog Tryz.lays169_ren := {
  mixed := by kernel_rfl
  f169 := Tryz.func52.trans (congrArg some (by kernel_rfl))
  t0 := Tryz.underlying0
  a0 := Tryz.isAgg0
  z0 := Tryz.sizeOf0
  v0 := Tryz.zeroValue0
  t3 := Tryz.underlying3
  a3 := Tryz.isAgg3
  z3 := Tryz.sizeOf3
  v3 := Tryz.zeroValue3
  t9 := Tryz.underlying9
  a9 := Tryz.isAgg9
  z9 := Tryz.sizeOf9
  v9 := Tryz.zeroValue9
  t37 := Tryz.underlying115
  a37 := Tryz.isAgg115
  z37 := Tryz.sizeOf115
  v37 := Tryz.zeroValue115
  t70 := Tryz.underlying121
  a70 := Tryz.isAgg121
  z70 := Tryz.sizeOf121
  v70 := Tryz.zeroValue121
  t72 := Tryz.underlying123
  a72 := Tryz.isAgg123
  z72 := Tryz.sizeOf123
  v72 := Tryz.zeroValue123
  t127 := Tryz.underlying162
  a127 := Tryz.isAgg162
  z127 := Tryz.sizeOf162
  v127 := Tryz.zeroValue162 }
theorem Tryz.Builder_Extra_169 : Builder.Extra Tryz.prog Tryz.lays169_ren := {
  sizeBuilder := by kernel_rfl
  liesBuilder := by kernel_rfl
  t5 := Tryz.underlying5
  a5 := Tryz.isAgg5
  z5 := Tryz.sizeOf5
  v5 := Tryz.zeroValue5
  infoByte := by kernel_rfl
  cellsByte := by kernel_rfl
  sizeByte := by kernel_rfl
  neB5 := by decide }
open Go.RowKit in
theorem Tryz.Builder_String (B b : Nat) (l : List UInt8) (w : World) (h : Lib.IsBuilder 123 5 B b (Lib.byteCells l) w) (h0 : l ≠ []) :
    Calls Tryz.prog 52 #[.pointer (some ⟨b, 0, none⟩)] w fun e w' => e = .returned (.string ⟨l.toArray⟩) ∧ Below B w w' := Any.Builder_String Tryz.lays169 Tryz.Builder_Extra_169 B b l w h h0
open Go.RowKit in
theorem Tryz.Builder_String_any (B b : Nat) (l : List UInt8) (w : World) (h : Lib.IsBuilder 123 5 B b (Lib.byteCells l) w) (hBw : B ≤ w.heap.size) :
    Calls Tryz.prog 52 #[.pointer (some ⟨b, 0, none⟩)] w fun e w' => e = .returned (.string ⟨l.toArray⟩) ∧ Below B w w' := Any.Builder_String_any Tryz.lays169 Tryz.Builder_Extra_169 B b l w h hBw
def Tryz.laysM171_ren : Go.Shelf.Ren := ⟨fun | 171 => 48 | 243 => 75 | 246 => 91 | 283 => 96 | 284 => 97 | 285 => 98 | 286 => 99 | 129 => 101 | 317 => 100 | 318 => 102 | 319 => 103 | 320 => 104 | 337 => 105 | 338 => 106 | n => n, fun | 3 => 3 | 9 => 9 | 2 => 2 | 4 => 4 | 171 => 185 | 0 => 0 | 53 => 178 | 37 => 115 | 5 => 5 | 173 => 188 | 212 => 191 | 51 => 175 | 20 => 20 | 213 => 192 | 46 => 158 | 232 => 195 | 233 => 196 | n => n, fun | 17 => 2 | 18 => 3 | 19 => 4 | n => n⟩
theorem Tryz.laysM171 : Go.Proofs.LaysM.n171 Tryz.prog Tryz.laysM171_ren := {
  mixed := by kernel_rfl
  f129 := Tryz.func101.trans (congrArg some (by kernel_rfl))
  f171 := Tryz.func48.trans (congrArg some (by kernel_rfl))
  f243 := Tryz.func75.trans (congrArg some (by kernel_rfl))
  f246 := Tryz.func91.trans (congrArg some (by kernel_rfl))
  f283 := Tryz.func96.trans (congrArg some (by kernel_rfl))
  f284 := Tryz.func97.trans (congrArg some (by kernel_rfl))
  f285 := Tryz.func98.trans (congrArg some (by kernel_rfl))
  f286 := Tryz.func99.trans (congrArg some (by kernel_rfl))
  f317 := Tryz.func100.trans (congrArg some (by kernel_rfl))
  f318 := Tryz.func102.trans (congrArg some (by kernel_rfl))
  f319 := Tryz.func103.trans (congrArg some (by kernel_rfl))
  f320 := Tryz.func104.trans (congrArg some (by kernel_rfl))
  f337 := Tryz.func105.trans (congrArg some (by kernel_rfl))
  f338 := Tryz.func106.trans (congrArg some (by kernel_rfl))
  t0 := Tryz.underlying0
  a0 := Tryz.isAgg0
  z0 := Tryz.sizeOf0
  v0 := Tryz.zeroValue0
  t2 := Tryz.underlying2
  a2 := Tryz.isAgg2
  z2 := Tryz.sizeOf2
  v2 := Tryz.zeroValue2
  t3 := Tryz.underlying3
  a3 := Tryz.isAgg3
  z3 := Tryz.sizeOf3
  v3 := Tryz.zeroValue3
  t4 := Tryz.underlying4
  a4 := Tryz.isAgg4
  z4 := Tryz.sizeOf4
  v4 := Tryz.zeroValue4
  t5 := Tryz.underlying5
  a5 := Tryz.isAgg5
  z5 := Tryz.sizeOf5
  v5 := Tryz.zeroValue5
  t9 := Tryz.underlying9
  a9 := Tryz.isAgg9
  z9 := Tryz.sizeOf9
  v9 := Tryz.zeroValue9
  t20 := Tryz.underlying20
  a20 := Tryz.isAgg20
  z20 := Tryz.sizeOf20
  v20 := Tryz.zeroValue20
  t37 := Tryz.underlying115
  a37 := Tryz.isAgg115
  z37 := Tryz.sizeOf115
  v37 := Tryz.zeroValue115
  t46 := Tryz.underlying158
  a46 := Tryz.isAgg158
  z46 := Tryz.sizeOf158
  v46 := Tryz.zeroValue158
  t51 := Tryz.underlying175
  a51 := Tryz.isAgg175
  z51 := Tryz.sizeOf175
  v51 := Tryz.zeroValue175
  t53 := Tryz.underlying178
  a53 := Tryz.isAgg178
  z53 := Tryz.sizeOf178
  v53 := Tryz.zeroValue178
  t171 := Tryz.underlying185
  a171 := Tryz.isAgg185
  z171 := Tryz.sizeOf185
  v171 := Tryz.zeroValue185
  t173 := Tryz.underlying188
  a173 := Tryz.isAgg188
  z173 := Tryz.sizeOf188
  v173 := Tryz.zeroValue188
  t212 := Tryz.underlying191
  a212 := Tryz.isAgg191
  z212 := Tryz.sizeOf191
  v212 := Tryz.zeroValue191
  t213 := Tryz.underlying192
  a213 := Tryz.isAgg192
  z213 := Tryz.sizeOf192
  t232 := Tryz.underlying195
  a232 := Tryz.isAgg195
  z232 := Tryz.sizeOf195
  v232 := Tryz.zeroValue195
  t233 := Tryz.underlying196
  a233 := Tryz.isAgg196
  z233 := Tryz.sizeOf196
  v233 := Tryz.zeroValue196
  g17 := by kernel_rfl
  g18 := by kernel_rfl
  g19 := by kernel_rfl
  i0 := by kernel_rfl
  i2 := by kernel_rfl
  i3 := by kernel_rfl
  i4 := by kernel_rfl
  i5 := by kernel_rfl
  i9 := by kernel_rfl
  i20 := by kernel_rfl
  i37 := by kernel_rfl
  i46 := by kernel_rfl
  i51 := by kernel_rfl
  i53 := by kernel_rfl
  i171 := by kernel_rfl
  i173 := by kernel_rfl
  i212 := by kernel_rfl
  i232 := by kernel_rfl
  i233 := by kernel_rfl
  m17 := by kernel_rfl
  m18 := by kernel_rfl
  m19 := by kernel_rfl }
open Go.RowKit Go.Sort Go.Lib in
theorem Tryz.strconv_Itoa (n : Int) (h0 : -9223372036854775808 ≤ n) (h1 : n ≤ 9223372036854775807) (w : World) (htab : Lib.TabIs Tryz.prog w "internal/strconv.uint64pow10" .u64 Lib.pow10Tab) :
    Calls Tryz.prog 48 #[.int .i64 n] w fun e w' => e = .returned (.string ⟨(Lib.itoa n).toArray⟩) ∧ ∃ k os, w' = grow (w.drewN k) os := Any.strconv_Itoa Tryz.laysM171 n h0 h1 w htab
def Tryz.lays212_ren : Go.Shelf.Ren := ⟨fun | 212 => 76 | 263 => 92 | 264 => 93 | n => n, fun | 46 => 158 | 51 => 175 | 146 => 176 | 53 => 178 | 148 => 179 | n => n, fun | n => n⟩
theorem Tryz.lays212 : Go.Proofs.Lays.n212 Tryz.prog Tryz.lays212_ren := {
  mixed := by kernel_rfl
  f212 := Tryz.func76.trans (congrArg some (by kernel_rfl))
  f263 := Tryz.func92.trans (congrArg some (by kernel_rfl))
  f264 := Tryz.func93.trans (congrArg some (by kernel_rfl))
  t46 := Tryz.underlying158
  a46 := Tryz.isAgg158
  z46 := Tryz.sizeOf158
  v46 := Tryz.zeroValue158
  t51 := Tryz.underlying175
  a51 := Tryz.isAgg175
  z51 := Tryz.sizeOf175
  v51 := Tryz.zeroValue175
  t53 := Tryz.underlying178
  a53 := Tryz.isAgg178
  z53 := Tryz.sizeOf178
  v53 := Tryz.zeroValue178
  t146 := Tryz.underlying176
  a146 := Tryz.isAgg176
  z146 := Tryz.sizeOf176
  v146 := Tryz.zeroValue176
  t148 := Tryz.underlying179
  a148 := Tryz.isAgg179
  z148 := Tryz.sizeOf179
  v148 := Tryz.zeroValue179 }
open Go.RowKit Go.Lib in
theorem Tryz.bits_Mul (x y : Nat) (hx : x < 18446744073709551616) (hy : y < 18446744073709551616) (w : World) :
    Calls Tryz.prog 76 #[.int .u64 x, .int .u64 y] w fun e w' => e = .returned (.tuple #[.int .u64 ((x * y / 18446744073709551616 : Nat) : Int), .int .u64 ((x * y % 18446744073709551616 : Nat) : Int)]) ∧ w' = w := Any.bits_Mul Tryz.lays212 x y hx hy w
def Tryz.lays107_ren : Go.Shelf.Ren := ⟨fun | 107 => 77 | 108 => 94 | n => n, fun | 28 => 64 | 3 => 3 | 4 => 4 | 0 => 0 | n => n, fun | n => n⟩
theorem Tryz.lays107 : Go.Proofs.Lays.n107 Tryz.prog Tryz.lays107_ren := {
  mixed := by kernel_rfl
  f107 := Tryz.func77.trans (congrArg some (by kernel_rfl))
  f108 := Tryz.func94.trans (congrArg some (by kernel_rfl))
  t0 := Tryz.underlying0
  a0 := Tryz.isAgg0
  z0 := Tryz.sizeOf0
  v0 := Tryz.zeroValue0
  t3 := Tryz.underlying3
  a3 := Tryz.isAgg3
  z3 := Tryz.sizeOf3
  v3 := Tryz.zeroValue3
  t4 := Tryz.underlying4
  a4 := Tryz.isAgg4
  z4 := Tryz.sizeOf4
  v4 := Tryz.zeroValue4
  t28 := Tryz.underlying64
  a28 := Tryz.isAgg64
  z28 := Tryz.sizeOf64
  v28 := Tryz.zeroValue64 }
open Go.Lib in
theorem Tryz.slices_Contains_int (b off n c : Nat) (zs : List Int) (x : Int) (w : World) (hz : n ≤ zs.length) (hbig : n ≤ 9223372036854775807) (hc : ∀ j, j < zs.length → w.cell? ⟨b, off + j, none⟩ = some (.int .i64 (zs.getD j 0))) :
    Calls Tryz.prog 77 #[.slice (some ⟨b, off, none⟩) n c, .int .i64 x] w fun e w' => e = .returned (.bool ((zs.take n).contains x)) ∧ w' = w := Any.slices_Contains_int Tryz.lays107 b off n c zs x w hz hbig hc
end Go.Proofs
namespace Go.Proofs.YtppcnlkhdgmaiabGreatDoor
open Go.RowKit

abbrev P10 (w : World) : Prop := Lib.TabIs Tryz.prog w "internal/strconv.uint64pow10" .u64 Lib.pow10Tab

set_option maxRecDepth 100000 in
set_option maxHeartbeats 4000000 in
theorem low_any (b n c m : Nat) (zs : List Int) (w : World) (hz : n = zs.length) (hbig : n ≤ 100000) (hc : ∀ j, j < zs.length → w.cell? ⟨b, 0 + j, none⟩ = some (.int .i64 (zs.getD j 0)))
    (hm : m ≤ 100000) (hlow : ∀ k : Nat, k < m → zs.contains (k : Int) = true) (hfree : zs.contains (m : Int) = false) :
    Calls Tryz.prog 51 #[.slice (some ⟨b, 0, none⟩) n c] w fun e w' => e = .returned (.int .i64 (m : Int)) ∧ w' = w := by
  subst hz
  have HC := hide hc
  have HL := hide hlow
  have HF := hide hfree
  clear hc hlow hfree
  go_enter Tryz.func51, Tryz.ntmps51
  go_wp2_with fail
  go_loopg [3] m (fun gk kk wr => ∃ k : Nat, k ≤ m ∧ gk = m - k ∧ kk = .int .i64 (k : Int) ∧ wr = w)
  case atStart => exact ⟨0, Nat.zero_le _, rfl, rfl, rfl⟩
  case round =>
    obtain ⟨k, hk, rfl, rfl, rfl⟩ := hrel
    by_cases hlt : k < m
    · have hq : (zs.take zs.length).contains (k : Int) = true := by rw [List.take_length]; exact unhide HL k hlt
      go_wp2_with (go_at_call 77; refine (Tryz.slices_Contains_int b 0 zs.length c zs (k : Int) _ (Nat.le_refl _) (by omega) (unhide HC)).mono ?_; rintro e w' ⟨rfl, rfl⟩; rw [hq])
      go_roundg (m - (k + 1))
      case measure => omega
      case rel => exact ⟨k + 1, by omega, rfl, by go_num, rfl⟩
    · have hkm : k = m := by omega
      subst hkm
      have hq : (zs.take zs.length).contains (k : Int) = false := by rw [List.take_length]; exact unhide HF
      go_wp2_with (go_at_call 77; refine (Tryz.slices_Contains_int b 0 zs.length c zs (k : Int) _ (Nat.le_refl _) (by omega) (unhide HC)).mono ?_; rintro e w' ⟨rfl, rfl⟩; rw [hq])
      go_returns
      exact ⟨rfl, rfl⟩

end Go.Proofs.YtppcnlkhdgmaiabGreatDoor
namespace Go.Proofs.YtppcnlkhdgmaiabGreatDoor
open Go.RowKit

theorem belG {w W : World} (k : Nat) (os : Array Obj) (h : Below w.heap.size w W) : Below w.heap.size w (Sort.grow (W.drewN k) os) := h.trans (Lib.below_grow _ _ h.size k os)
theorem cG {w : World} {p : Addr} {v : Value} (k : Nat) (os : Array Obj) (h : w.cell? p = some v) : (Sort.grow (w.drewN k) os).cell? p = some v := by
  have hlt : p.block < w.heap.size := by
    rcases Nat.lt_or_ge p.block w.heap.size with h1 | h1
    · exact h1
    · simp [World.cell?, Array.getElem?_eq_none h1] at h
  rw [(Lib.below_grow w.heap.size w (Nat.le_refl _) k os).cell hlt]; exact h
theorem P10.below {w W : World} (h : P10 w) (hb : Below w.heap.size w W) : P10 W := Lib.tabBelow_of_tabIs h W hb

set_option maxRecDepth 100000 in
set_option maxHeartbeats 4000000 in
theorem bw_any (lo hi : Nat) (hlo : lo ≤ 100000) (hhi : hi ≤ 100000) (w : World) (ht : P10 w) :
    Calls Tryz.prog 50 #[.agg #[.int .i64 (lo : Int), .int .i64 (hi : Int)]] w fun e w' => e = .returned (.string ⟨(Lib.itoa lo ++ [45] ++ Lib.itoa hi).toArray⟩) ∧ Below w.heap.size w w' := by
  have HT := hide ht
  clear ht
  have hcat : Hid ((⟨(Lib.itoa lo).toArray⟩ : ByteArray) ++ ⟨#[45]⟩ ++ ⟨(Lib.itoa hi).toArray⟩ = ⟨(Lib.itoa lo ++ [45] ++ Lib.itoa hi).toArray⟩) := by
    apply hide
    apply ByteArray.ext
    simp [ByteArray.data_append]
  have la : (Lib.itoa (lo : Int)).length ≤ 21 := Lib.itoa_length_le _ (by omega) (by omega)
  have lb : (Lib.itoa (hi : Int)).length ≤ 21 := Lib.itoa_length_le _ (by omega) (by omega)
  have n1 : ¬ 9223372036854775807 < (Lib.itoa (lo : Int)).length + 1 := by omega
  have n2 : ¬ 9223372036854775807 < (Lib.itoa (lo : Int)).length + 1 + (Lib.itoa (hi : Int)).length := by omega
  go_enter Tryz.func50, Tryz.ntmps50
  go_upto_region 1 with fail
  have HB := hide (blk_new w #[.int .i64 (lo : Int), .int .i64 (hi : Int)] 55)
  have HBE := hide (belA (.cells #[.int .i64 (lo : Int), .int .i64 (hi : Int)] 55) (Below.refl w.heap.size w))
  generalize hW : (w.alloc (.cells #[.int .i64 (lo : Int), .int .i64 (hi : Int)] 55)) = W at HB HBE ⊢
  clear hW
  have c0 : W.cell? ⟨w.heap.size, 0, none⟩ = some (.int .i64 (lo : Int)) := blk_cell (unhide HB) 0
  have c1 : W.cell? ⟨w.heap.size, 1, none⟩ = some (.int .i64 (hi : Int)) := blk_cell (unhide HB) 1
  go_region_held3 (fun w' => w'.cell? ⟨w.heap.size, 0, none⟩ = some (.int .i64 (lo : Int)) ∧ w'.cell? ⟨w.heap.size, 1, none⟩ = some (.int .i64 (hi : Int))) (refine ⟨?_, ?_⟩ <;> (repeat (first | assumption | apply cD | apply cG)))
    (first | (go_at_call 48; refine (Tryz.strconv_Itoa _ (by omega) (by omega) _ ?_).mono ?_; (refine (unhide HT).below ?_; (repeat (first | exact unhide HBE | apply belD | apply belG))); rintro e w2 ⟨rfl, k, os, rfl⟩))
  all_goals
    clear n1 n2 la lb c0 c1
    go_wp2_with fail
    go_returns
    refine ⟨ret_str (unhide hcat), ?_⟩
    repeat (first | exact unhide HBE | apply belD | apply belG)

end Go.Proofs.YtppcnlkhdgmaiabGreatDoor
namespace Go.Proofs.YtppcnlkhdgmaiabGreatDoor
open Go.RowKit

def repC (n k : Nat) : List Value := List.replicate k (.int .i64 (-1)) ++ List.replicate (n - k) (.int .i64 0)

theorem repC_zero (n : Nat) : repC n 0 = List.replicate n (.int .i64 0) := by simp [repC]
theorem repC_full (n : Nat) : repC n n = List.replicate n (.int .i64 (-1)) := by simp [repC]
theorem repC_length {n k : Nat} (h : k ≤ n) : (repC n k).length = n := by simp [repC]; omega
theorem repC_splice {n k c : Nat} : splice (repC n k) k (List.replicate c (.int .i64 (-1))) = repC n (k + c) := by
  unfold splice repC
  rw [List.length_replicate, List.take_left' (by simp), ← List.drop_drop, List.drop_left' (by simp), List.drop_replicate, ← List.append_assoc, List.replicate_append_replicate]
  congr 2
  omega
theorem repC_get {n k j : Nat} (h : j < k) : (repC n k)[j]? = some (.int .i64 (-1)) := by
  unfold repC
  rw [List.getElem?_append_left (by simpa using h), List.getElem?_replicate, if_pos h]
theorem own_full {w : World} {base : Nat} {e : TypeId} {g n : Nat} {xs : List Value} (h : w.ownsRow base e 1 (.slice (some ⟨g, 0, none⟩) n n) n xs) : w.heap[g]? = some (.cells xs.toArray e (0, 0)) := by
  obtain ⟨hl, ⟨hv, _⟩ | ⟨g', cap, cur, hv, _, hh, _, _, hs, ht⟩⟩ := h
  · cases hv
  · cases hv
    rw [hh]
    congr 2
    rw [← ht, List.take_of_length_le (by simpa using Nat.le_of_eq hs)]

theorem made_zero (n : Nat) : (madeCells (Value.int .i64 0).cells (n * 1)).toList = List.replicate n (.int .i64 0) := by
  show (madeCells #[Value.int .i64 0] (n * 1)).toList = _
  rw [toList_madeCells_one, Nat.mul_one]

set_option maxRecDepth 100000 in
set_option maxHeartbeats 400000 in
theorem repeat_any (b n : Nat) (w : World) (hb : w.cell? ⟨b, 0, none⟩ = some (.int .i64 (-1))) (hbl : b < w.heap.size) (hn1 : 1 ≤ n) (hn : n ≤ 1000) :
    Calls Tryz.prog 49 #[.slice (some ⟨b, 0, none⟩) 1 1, .int .i64 (n : Int)] w fun e w' => e = .returned (.slice (some ⟨w.heap.size, 0, none⟩) n n) ∧ w'.heap[w.heap.size]? = some (.cells (List.replicate n (.int .i64 (-1))).toArray 3 (0, 0)) ∧ Below w.heap.size w w' := by
  obtain ⟨i3, hi3, hz30, hz31, hz32⟩ := info_parts Tryz.info3
  have HI3 := hide hi3
  have HZ30 := hide hz30
  have HZ31 := hide hz31
  have HZ32 := hide hz32
  have HB := hide hb
  clear hb hi3 hz30 hz31 hz32
  have hnI : ¬ ((n : Int) < 0) := by omega
  have d1 : (1 * n / 18446744073709551616 : Nat) = 0 := by omega
  have d2 : (1 * n % 18446744073709551616 : Nat) = n := by omega
  have HM := hide (Tryz.bits_Mul 1 n (by omega) (by omega))
  rw [d1, d2] at HM
  clear d1 d2
  go_enter Tryz.func49, Tryz.ntmps49
  go_upto_region 7 with (first
    | (go_at_call 76; refine (unhide HM _).mono ?_; rintro e w1 ⟨rfl, hw⟩; rw [hw]; clear hw w1)
    | (at_make; refine wpList_make_full _ rfl _ _ 64 rfl w.heap.size 3 i3 (.int .i64 0) 1 Tryz.underlying64 (unhide HI3) (unhide HZ30) (unhide HZ31) _ _ _ _ n rfl rfl (by simp) (by simp) (by rw [unhide HZ32]; omega) (by unfold maxLen; omega) (Nat.le_refl _) ?_; intro w2 hown2 hgrow2))
  have HG : Hid (w2.heap[w.heap.size]? = some (.cells (repC n 0).toArray 3 (0, 0))) := by
    have := own_full hown2
    rw [made_zero] at this
    rw [repC_zero]; exact this
  have HB2 := hide ((Below.refl w.heap.size w).grown hgrow2 (Nat.le_refl _) (fun k e => by cases e))
  have HS : Hid (w2.cell? ⟨b, 0, none⟩ = some (.int .i64 (-1))) := by
    show _ = _
    rw [(unhide HB2).cell hbl]; exact unhide HB
  clear hown2 hgrow2 HB
  have HSZ : Hid ((Tryz.prog.info? 3).map (·.size) = some 1) := by
    show _ = _
    rw [unhide HI3]; simp [unhide HZ31]
  have HN : Hid ((List.replicate 1 (Value.int .i64 (-1))).length = Nat.min 1 n) := by
    show _ = _
    rw [List.length_replicate]; exact (Nat.min_eq_left hn1).symm
  have HP : Hid (0 < (List.replicate 1 (Value.int .i64 (-1))).length → (some (⟨w.heap.size, 0, none⟩ : Addr) = some ⟨w.heap.size, 0, none⟩) ∧ ∃ ad, (some (⟨b, 0, none⟩ : Addr)) = some ad ∧ ∀ j v, (List.replicate 1 (Value.int .i64 (-1)))[j]? = some v → w2.cell? (ad.add j) = some v) := by
    intro _
    refine ⟨rfl, _, rfl, ?_⟩
    intro j v hj
    match j, hj with
    | 0, hj => cases hj; exact unhide HS
  have HF : Hid (0 + (List.replicate 1 (Value.int .i64 (-1))).length ≤ (repC n 0).length) := by
    show _ ≤ _
    rw [repC_length (Nat.zero_le _)]; simpa using hn1
  have HO : Hid (∀ v ∈ (List.replicate 1 (Value.int .i64 (-1))), v.oneCell' = true) := by
    intro v hv
    cases List.eq_of_mem_replicate hv; rfl
  have HE : Hid (splice (repC n 0) 0 (List.replicate 1 (.int .i64 (-1))) = repC n 1) := repC_splice
  go_wp2_with (show wpList _ _ _ ({ dst := some 33, op := _, type := _, pos := _, after := _, guard := _ } :: _) _ _; refine wpList_copy_splice rfl (.tmp 31) (.tmp 32) 64 64 rfl 3 Tryz.underlying64 (unhide HSZ) _ _ _ _ _ _ rfl rfl w.heap.size 0 (repC n 0) 3 (unhide HG) (List.replicate 1 (.int .i64 (-1))) (unhide HN) (unhide HP) (unhide HF) (unhide HO) w.heap.size w (unhide HB2) (Nat.le_refl _) ?_; intro w3 hg3 hb3; rw [unhide HE] at hg3; have HB3 := hide hb3; clear hb3 HP HS HG HB2 HE)
  go_loopg [8] (n - 1) (fun gk kk wr => ∃ k : Nat, 1 ≤ k ∧ k ≤ n ∧ gk = n - k ∧ kk = .int .i64 (k : Int) ∧ wr.heap[w.heap.size]? = some (.cells (repC n k).toArray 3 (0, 0)) ∧ Below w.heap.size w wr)
  case atStart => exact ⟨1, Nat.le_refl _, hn1, rfl, rfl, hg3, unhide HB3⟩
  case round =>
    obtain ⟨k, hk1, hk, rfl, rfl, hg, hbe⟩ := hrel
    have HG := hide hg
    have HBE := hide hbe
    clear hg hbe
    by_cases hlt : k < n
    · obtain ⟨c, hc⟩ : ∃ c, c = min k (n - k) := ⟨_, rfl⟩
      obtain ⟨X, hX⟩ : ∃ X, X = List.replicate c (Value.int .i64 (-1)) := ⟨_, rfl⟩
      have hcn : k + c ≤ n := by omega
      have hck : c ≤ k := by omega
      have hc1 : 1 ≤ c := by omega
      have HX : Hid (X.length = c) := by
        show _ = _
        rw [hX]; simp
      have HN2 : Hid (X.length = Nat.min k (n - k)) := by
        show _ = _
        rw [unhide HX, hc]
      have HP2 : Hid (0 < X.length → (some (⟨w.heap.size, k, none⟩ : Addr) = some ⟨w.heap.size, k, none⟩) ∧ ∃ ad, (some (⟨w.heap.size, 0, none⟩ : Addr)) = some ad ∧ ∀ j v, X[j]? = some v → wr.cell? (ad.add j) = some v) := by
        intro _
        refine ⟨rfl, _, rfl, ?_⟩
        intro j v hj
        rw [hX, List.getElem?_replicate] at hj
        split at hj
        · cases hj
          rename_i hjc
          have := blk_cell (unhide HG) j
          rw [show (Addr.add ⟨w.heap.size, 0, none⟩ j : Addr) = ⟨w.heap.size, j, none⟩ by simp [Addr.add]; intro h; exact h.symm]
          rw [this]
          simpa using repC_get (n := n) (k := k) (j := j) (by omega)
        · cases hj
      have HF2 : Hid (k + X.length ≤ (repC n k).length) := by
        show _ ≤ _
        rw [repC_length hk, unhide HX]; exact hcn
      have HO2 : Hid (∀ v ∈ X, v.oneCell' = true) := by
        intro v hv
        rw [hX] at hv
        cases List.eq_of_mem_replicate hv; rfl
      have HE2 : Hid (splice (repC n k) k X = repC n (k + c)) := by
        show _ = _
        rw [hX]; exact repC_splice
      have k0 : (0 : Int) ≤ (k : Int) := by omega
      have k1 : (k : Int) ≤ (n : Int) := by omega
      have k2 : (k : Int) < (n : Int) := by omega
      have k3 : ¬ ((k : Int) = (n : Int)) := by omega
      have k4 : ¬ (k = n) := by omega
      clear hc hX HN HF HO
      go_upto_region 9 with fail
      go_region_law (refine step_copy_splice rfl (.tmp 41) (.tmp 44) 64 64 rfl 3 Tryz.underlying64 (unhide HSZ) (some ⟨w.heap.size, k, none⟩) (some ⟨w.heap.size, 0, none⟩) (n - k) (n - k) k n (by simp [Act.eval, Act.put]; omega) (by simp [Act.eval, Act.put]) w.heap.size k (repC n k) 3 (unhide HG) X (unhide HN2) (unhide HP2) (unhide HF2) (unhide HO2) w.heap.size w ((unhide HBE).drew) (Nat.le_refl _) ?_; intro w4 hg4 hb4)
      rw [unhide HE2] at hg4
      have HG4 := hide hg4
      have HB4 := hide hb4
      have hXl := unhide HX
      clear hg4 hb4 HE2 HP2 HF2 HO2 HN2 HX
      rw [hXl]
      clear hXl
      go_wp2_with fail
      go_roundg (n - (k + c))
      case measure => omega
      case rel =>
        have hw : IntKind.i64.wrap ((k : Int) + (c : Int)) = (k : Int) + (c : Int) := IntWalk.i64_in _ ⟨by omega, by omega⟩
        exact ⟨k + c, by omega, hcn, rfl, by rw [hw]; go_num, unhide (unhide HG4), unhide HB4⟩
    · have hkn : k = n := by omega
      subst hkn
      go_wp2_with fail
      go_returns
      exact ⟨rfl, by rw [← repC_full]; exact unhide HG, unhide HBE⟩

end Go.Proofs.YtppcnlkhdgmaiabGreatDoor
