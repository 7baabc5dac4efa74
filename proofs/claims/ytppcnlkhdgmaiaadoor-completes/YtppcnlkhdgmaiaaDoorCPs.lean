/- What bestTimetable does with the budget 0; lowestFree. The library's contracts at this program: the Builder's String, strconv.Itoa, bits.Mul, slices.Contains. What the program writes: lowestFree, bounds.write. What the program writes: bounds.write. What the builder's copyCheck and WriteString do. What the builder's WriteString does. What slices.Repeat does at one number. Plain mathematics of writing a timetable: the lowest free place; what is written of a step. The plain mathematics of a right protocol: what is known of its plates. What Plan answers. -/
import Derived.Test.YtppcnlkhdgmaiaaDoorCPlQ
import Derived.Shelf.Strings.Builder1
import Derived.Shelf.LaysM
import Derived.Shelf.Strconv.Itoa3
import Derived.Shelf.Bits.Mul64
import Derived.Shelf.Slices.Turned
import Derived.Test.YtppcnlkhdgmaiaaDoorProg
import Derived.Test.YtppcnlkhdgmaiaaDoorCPlA
import Derived.Lib.AppendIntMem
import Derived.Lib.SmallJoins
import Derived.Deep.RegionHeld3
import Derived.Test.YtppcnlkhdgmaiaaDoorCScA
import Derived.Lib.ItoaLen
import Derived.Laws.CopyOwn
namespace Go.Proofs.YtppcnlkhdgmaiaaDoor
open Go.RowKit

set_option maxRecDepth 100000 in
set_option maxHeartbeats 4000000 in
theorem best_zero (J K D : Nat) (ao : Option Addr) (l c : Nat) (w : World) :
    Calls Tryd.prog 34 #[.agg #[.int .i64 (J : Int), .int .i64 (K : Int), .int .i64 (D : Int), .slice ao l c], .int .i64 0] w fun e w' => e = .returned (.tuple #[.agg #[.slice none 0 0, .slice none 0 0, .int .i64 0], .bool false, .bool true]) ∧ Below w.heap.size w w' := by
  have HB := hide (belA (.cells #[.bool true] 4) (belA (.cells #[.bool false] 4) (belA (.cells #[.slice none 0 0, .slice none 0 0, .int .i64 0] 89) (belA (.cells #[.int .i64 (J : Int), .int .i64 (K : Int), .int .i64 (D : Int), .slice ao l c] 75) (Below.refl w.heap.size w)))))
  go_enter Tryd.func34, Tryd.ntmps34
  go_wp2_with fail
  refine bodyPost_ret (v := .tuple #[.agg #[.slice none 0 0, .slice none 0 0, .int .i64 0], .bool false, .bool true]) (by simp [results, Tryd.results34, go_sem]) rfl ?_
  exact ⟨rfl, unhide HB⟩

end Go.Proofs.YtppcnlkhdgmaiaaDoor
namespace Go.Proofs
open Go.Shelf
def Tryd.lays169_ren : Go.Shelf.Ren := ⟨fun | 169 => 57 | n => n, fun | 70 => 133 | 9 => 9 | 0 => 0 | 72 => 135 | 37 => 127 | 127 => 169 | 3 => 3 | 5 => 5 | n => n, fun | n => n⟩
theorem Tryd.lays169 : Go.Proofs.Lays.n169 Tryd.prog Tryd.lays169_ren := {
  mixed := by kernel_rfl
  f169 := Tryd.func57.trans (congrArg some (by kernel_rfl))
  t0 := Tryd.underlying0
  a0 := Tryd.isAgg0
  z0 := Tryd.sizeOf0
  v0 := Tryd.zeroValue0
  t3 := Tryd.underlying3
  a3 := Tryd.isAgg3
  z3 := Tryd.sizeOf3
  v3 := Tryd.zeroValue3
  t9 := Tryd.underlying9
  a9 := Tryd.isAgg9
  z9 := Tryd.sizeOf9
  v9 := Tryd.zeroValue9
  t37 := Tryd.underlying127
  a37 := Tryd.isAgg127
  z37 := Tryd.sizeOf127
  v37 := Tryd.zeroValue127
  t70 := Tryd.underlying133
  a70 := Tryd.isAgg133
  z70 := Tryd.sizeOf133
  v70 := Tryd.zeroValue133
  t72 := Tryd.underlying135
  a72 := Tryd.isAgg135
  z72 := Tryd.sizeOf135
  v72 := Tryd.zeroValue135
  t127 := Tryd.underlying169
  a127 := Tryd.isAgg169
  z127 := Tryd.sizeOf169
  v127 := Tryd.zeroValue169 }
theorem Tryd.Builder_Extra_169 : Builder.Extra Tryd.prog Tryd.lays169_ren := {
  sizeBuilder := by kernel_rfl
  liesBuilder := by kernel_rfl
  t5 := Tryd.underlying5
  a5 := Tryd.isAgg5
  z5 := Tryd.sizeOf5
  v5 := Tryd.zeroValue5
  infoByte := by kernel_rfl
  cellsByte := by kernel_rfl
  sizeByte := by kernel_rfl
  neB5 := by decide }
open Go.RowKit in
theorem Tryd.Builder_String (B b : Nat) (l : List UInt8) (w : World) (h : Lib.IsBuilder 135 5 B b (Lib.byteCells l) w) (h0 : l ≠ []) :
    Calls Tryd.prog 57 #[.pointer (some ⟨b, 0, none⟩)] w fun e w' => e = .returned (.string ⟨l.toArray⟩) ∧ Below B w w' := Any.Builder_String Tryd.lays169 Tryd.Builder_Extra_169 B b l w h h0
open Go.RowKit in
theorem Tryd.Builder_String_any (B b : Nat) (l : List UInt8) (w : World) (h : Lib.IsBuilder 135 5 B b (Lib.byteCells l) w) (hBw : B ≤ w.heap.size) :
    Calls Tryd.prog 57 #[.pointer (some ⟨b, 0, none⟩)] w fun e w' => e = .returned (.string ⟨l.toArray⟩) ∧ Below B w w' := Any.Builder_String_any Tryd.lays169 Tryd.Builder_Extra_169 B b l w h hBw
def Tryd.laysM171_ren : Go.Shelf.Ren := ⟨fun | 171 => 53 | 243 => 75 | 246 => 91 | 283 => 96 | 284 => 97 | 285 => 98 | 286 => 99 | 129 => 101 | 317 => 100 | 318 => 102 | 319 => 103 | 320 => 104 | 337 => 105 | 338 => 106 | n => n, fun | 3 => 3 | 9 => 9 | 2 => 2 | 4 => 4 | 171 => 192 | 0 => 0 | 53 => 185 | 37 => 127 | 5 => 5 | 173 => 195 | 212 => 198 | 51 => 182 | 20 => 20 | 213 => 199 | 46 => 165 | 232 => 202 | 233 => 203 | n => n, fun | 17 => 2 | 18 => 3 | 19 => 4 | n => n⟩
theorem Tryd.laysM171 : Go.Proofs.LaysM.n171 Tryd.prog Tryd.laysM171_ren := {
  mixed := by kernel_rfl
  f129 := Tryd.func101.trans (congrArg some (by kernel_rfl))
  f171 := Tryd.func53.trans (congrArg some (by kernel_rfl))
  f243 := Tryd.func75.trans (congrArg some (by kernel_rfl))
  f246 := Tryd.func91.trans (congrArg some (by kernel_rfl))
  f283 := Tryd.func96.trans (congrArg some (by kernel_rfl))
  f284 := Tryd.func97.trans (congrArg some (by kernel_rfl))
  f285 := Tryd.func98.trans (congrArg some (by kernel_rfl))
  f286 := Tryd.func99.trans (congrArg some (by kernel_rfl))
  f317 := Tryd.func100.trans (congrArg some (by kernel_rfl))
  f318 := Tryd.func102.trans (congrArg some (by kernel_rfl))
  f319 := Tryd.func103.trans (congrArg some (by kernel_rfl))
  f320 := Tryd.func104.trans (congrArg some (by kernel_rfl))
  f337 := Tryd.func105.trans (congrArg some (by kernel_rfl))
  f338 := Tryd.func106.trans (congrArg some (by kernel_rfl))
  t0 := Tryd.underlying0
  a0 := Tryd.isAgg0
  z0 := Tryd.sizeOf0
  v0 := Tryd.zeroValue0
  t2 := Tryd.underlying2
  a2 := Tryd.isAgg2
  z2 := Tryd.sizeOf2
  v2 := Tryd.zeroValue2
  t3 := Tryd.underlying3
  a3 := Tryd.isAgg3
  z3 := Tryd.sizeOf3
  v3 := Tryd.zeroValue3
  t4 := Tryd.underlying4
  a4 := Tryd.isAgg4
  z4 := Tryd.sizeOf4
  v4 := Tryd.zeroValue4
  t5 := Tryd.underlying5
  a5 := Tryd.isAgg5
  z5 := Tryd.sizeOf5
  v5 := Tryd.zeroValue5
  t9 := Tryd.underlying9
  a9 := Tryd.isAgg9
  z9 := Tryd.sizeOf9
  v9 := Tryd.zeroValue9
  t20 := Tryd.underlying20
  a20 := Tryd.isAgg20
  z20 := Tryd.sizeOf20
  v20 := Tryd.zeroValue20
  t37 := Tryd.underlying127
  a37 := Tryd.isAgg127
  z37 := Tryd.sizeOf127
  v37 := Tryd.zeroValue127
  t46 := Tryd.underlying165
  a46 := Tryd.isAgg165
  z46 := Tryd.sizeOf165
  v46 := Tryd.zeroValue165
  t51 := Tryd.underlying182
  a51 := Tryd.isAgg182
  z51 := Tryd.sizeOf182
  v51 := Tryd.zeroValue182
  t53 := Tryd.underlying185
  a53 := Tryd.isAgg185
  z53 := Tryd.sizeOf185
  v53 := Tryd.zeroValue185
  t171 := Tryd.underlying192
  a171 := Tryd.isAgg192
  z171 := Tryd.sizeOf192
  v171 := Tryd.zeroValue192
  t173 := Tryd.underlying195
  a173 := Tryd.isAgg195
  z173 := Tryd.sizeOf195
  v173 := Tryd.zeroValue195
  t212 := Tryd.underlying198
  a212 := Tryd.isAgg198
  z212 := Tryd.sizeOf198
  v212 := Tryd.zeroValue198
  t213 := Tryd.underlying199
  a213 := Tryd.isAgg199
  z213 := Tryd.sizeOf199
  t232 := Tryd.underlying202
  a232 := Tryd.isAgg202
  z232 := Tryd.sizeOf202
  v232 := Tryd.zeroValue202
  t233 := Tryd.underlying203
  a233 := Tryd.isAgg203
  z233 := Tryd.sizeOf203
  v233 := Tryd.zeroValue203
  g17 := by kernel_rfl
  g18 := by kernel_rfl
  g19 := by kernel_rfl
  i0 := by kernel_rfl
  i2 := by kernel_rfl
  i3 := by kernel_rfl
  i4 := by kernel_rfl
  i5 := by kernel_rfl
  i9 := by kernel_rfl
  i20 := by kernel_rfl
  i37 := by kernel_rfl
  i46 := by kernel_rfl
  i51 := by kernel_rfl
  i53 := by kernel_rfl
  i171 := by kernel_rfl
  i173 := by kernel_rfl
  i212 := by kernel_rfl
  i232 := by kernel_rfl
  i233 := by kernel_rfl
  m17 := by kernel_rfl
  m18 := by kernel_rfl
  m19 := by kernel_rfl }
open Go.RowKit Go.Sort Go.Lib in
theorem Tryd.strconv_Itoa (n : Int) (h0 : -9223372036854775808 ≤ n) (h1 : n ≤ 9223372036854775807) (w : World) (htab : Lib.TabIs Tryd.prog w "internal/strconv.uint64pow10" .u64 Lib.pow10Tab) :
    Calls Tryd.prog 53 #[.int .i64 n] w fun e w' => e = .returned (.string ⟨(Lib.itoa n).toArray⟩) ∧ ∃ k os, w' = grow (w.drewN k) os := Any.strconv_Itoa Tryd.laysM171 n h0 h1 w htab
def Tryd.lays212_ren : Go.Shelf.Ren := ⟨fun | 212 => 76 | 263 => 92 | 264 => 93 | n => n, fun | 46 => 165 | 51 => 182 | 146 => 183 | 53 => 185 | 148 => 186 | n => n, fun | n => n⟩
theorem Tryd.lays212 : Go.Proofs.Lays.n212 Tryd.prog Tryd.lays212_ren := {
  mixed := by kernel_rfl
  f212 := Tryd.func76.trans (congrArg some (by kernel_rfl))
  f263 := Tryd.func92.trans (congrArg some (by kernel_rfl))
  f264 := Tryd.func93.trans (congrArg some (by kernel_rfl))
  t46 := Tryd.underlying165
  a46 := Tryd.isAgg165
  z46 := Tryd.sizeOf165
  v46 := Tryd.zeroValue165
  t51 := Tryd.underlying182
  a51 := Tryd.isAgg182
  z51 := Tryd.sizeOf182
  v51 := Tryd.zeroValue182
  t53 := Tryd.underlying185
  a53 := Tryd.isAgg185
  z53 := Tryd.sizeOf185
  v53 := Tryd.zeroValue185
  t146 := Tryd.underlying183
  a146 := Tryd.isAgg183
  z146 := Tryd.sizeOf183
  v146 := Tryd.zeroValue183
  t148 := Tryd.underlying186
  a148 := Tryd.isAgg186
  z148 := Tryd.sizeOf186
  v148 := Tryd.zeroValue186 }
open Go.RowKit Go.Lib in
theorem Tryd.bits_Mul (x y : Nat) (hx : x < 18446744073709551616) (hy : y < 18446744073709551616) (w : World) :
    Calls Tryd.prog 76 #[.int .u64 x, .int .u64 y] w fun e w' => e = .returned (.tuple #[.int .u64 ((x * y / 18446744073709551616 : Nat) : Int), .int .u64 ((x * y % 18446744073709551616 : Nat) : Int)]) ∧ w' = w := Any.bits_Mul Tryd.lays212 x y hx hy w
def Tryd.lays107_ren : Go.Shelf.Ren := ⟨fun | 107 => 77 | 108 => 94 | n => n, fun | 28 => 49 | 3 => 3 | 4 => 4 | 0 => 0 | n => n, fun | n => n⟩
theorem Tryd.lays107 : Go.Proofs.Lays.n107 Tryd.prog Tryd.lays107_ren := {
  mixed := by kernel_rfl
  f107 := Tryd.func77.trans (congrArg some (by kernel_rfl))
  f108 := Tryd.func94.trans (congrArg some (by kernel_rfl))
  t0 := Tryd.underlying0
  a0 := Tryd.isAgg0
  z0 := Tryd.sizeOf0
  v0 := Tryd.zeroValue0
  t3 := Tryd.underlying3
  a3 := Tryd.isAgg3
  z3 := Tryd.sizeOf3
  v3 := Tryd.zeroValue3
  t4 := Tryd.underlying4
  a4 := Tryd.isAgg4
  z4 := Tryd.sizeOf4
  v4 := Tryd.zeroValue4
  t28 := Tryd.underlying49
  a28 := Tryd.isAgg49
  z28 := Tryd.sizeOf49
  v28 := Tryd.zeroValue49 }
open Go.Lib in
theorem Tryd.slices_Contains_int (b off n c : Nat) (zs : List Int) (x : Int) (w : World) (hz : n ≤ zs.length) (hbig : n ≤ 9223372036854775807) (hc : ∀ j, j < zs.length → w.cell? ⟨b, off + j, none⟩ = some (.int .i64 (zs.getD j 0))) :
    Calls Tryd.prog 77 #[.slice (some ⟨b, off, none⟩) n c, .int .i64 x] w fun e w' => e = .returned (.bool ((zs.take n).contains x)) ∧ w' = w := Any.slices_Contains_int Tryd.lays107 b off n c zs x w hz hbig hc
end Go.Proofs
namespace Go.Proofs.YtppcnlkhdgmaiaaDoor
open Go.RowKit

abbrev P10 (w : World) : Prop := Lib.TabIs Tryd.prog w "internal/strconv.uint64pow10" .u64 Lib.pow10Tab

set_option maxRecDepth 100000 in
set_option maxHeartbeats 4000000 in
theorem low_any (b n c m : Nat) (zs : List Int) (w : World) (hz : n = zs.length) (hbig : n ≤ 100000) (hc : ∀ j, j < zs.length → w.cell? ⟨b, 0 + j, none⟩ = some (.int .i64 (zs.getD j 0)))
    (hm : m ≤ 100000) (hlow : ∀ k : Nat, k < m → zs.contains (k : Int) = true) (hfree : zs.contains (m : Int) = false) :
    Calls Tryd.prog 56 #[.slice (some ⟨b, 0, none⟩) n c] w fun e w' => e = .returned (.int .i64 (m : Int)) ∧ w' = w := by
  subst hz
  have HC := hide hc
  have HL := hide hlow
  have HF := hide hfree
  clear hc hlow hfree
  go_enter Tryd.func56, Tryd.ntmps56
  go_wp2_with fail
  go_loopg [3] m (fun gk kk wr => ∃ k : Nat, k ≤ m ∧ gk = m - k ∧ kk = .int .i64 (k : Int) ∧ wr = w)
  case atStart => exact ⟨0, Nat.zero_le _, rfl, rfl, rfl⟩
  case round =>
    obtain ⟨k, hk, rfl, rfl, rfl⟩ := hrel
    by_cases hlt : k < m
    · have hq : (zs.take zs.length).contains (k : Int) = true := by rw [List.take_length]; exact unhide HL k hlt
      go_wp2_with (go_at_call 77; refine (Tryd.slices_Contains_int b 0 zs.length c zs (k : Int) _ (Nat.le_refl _) (by omega) (unhide HC)).mono ?_; rintro e w' ⟨rfl, rfl⟩; rw [hq])
      go_roundg (m - (k + 1))
      case measure => omega
      case rel => exact ⟨k + 1, by omega, rfl, by go_num, rfl⟩
    · have hkm : k = m := by omega
      subst hkm
      have hq : (zs.take zs.length).contains (k : Int) = false := by rw [List.take_length]; exact unhide HF
      go_wp2_with (go_at_call 77; refine (Tryd.slices_Contains_int b 0 zs.length c zs (k : Int) _ (Nat.le_refl _) (by omega) (unhide HC)).mono ?_; rintro e w' ⟨rfl, rfl⟩; rw [hq])
      go_returns
      exact ⟨rfl, rfl⟩

end Go.Proofs.YtppcnlkhdgmaiaaDoor
namespace Go.Proofs.YtppcnlkhdgmaiaaDoor
open Go.RowKit

theorem belG {w W : World} (k : Nat) (os : Array Obj) (h : Below w.heap.size w W) : Below w.heap.size w (Sort.grow (W.drewN k) os) := h.trans (Lib.below_grow _ _ h.size k os)
theorem cG {w : World} {p : Addr} {v : Value} (k : Nat) (os : Array Obj) (h : w.cell? p = some v) : (Sort.grow (w.drewN k) os).cell? p = some v := by
  have hlt : p.block < w.heap.size := by
    rcases Nat.lt_or_ge p.block w.heap.size with h1 | h1
    · exact h1
    · simp [World.cell?, Array.getElem?_eq_none h1] at h
  rw [(Lib.below_grow w.heap.size w (Nat.le_refl _) k os).cell hlt]; exact h
theorem P10.below {w W : World} (h : P10 w) (hb : Below w.heap.size w W) : P10 W := Lib.tabBelow_of_tabIs h W hb

set_option maxRecDepth 100000 in
set_option maxHeartbeats 4000000 in
theorem bw_any (lo hi : Nat) (hlo : lo ≤ 100000) (hhi : hi ≤ 100000) (w : World) (ht : P10 w) :
    Calls Tryd.prog 55 #[.agg #[.int .i64 (lo : Int), .int .i64 (hi : Int)]] w fun e w' => e = .returned (.string ⟨(Lib.itoa lo ++ [45] ++ Lib.itoa hi).toArray⟩) ∧ Below w.heap.size w w' := by
  have HT := hide ht
  clear ht
  have hcat : Hid ((⟨(Lib.itoa lo).toArray⟩ : ByteArray) ++ ⟨#[45]⟩ ++ ⟨(Lib.itoa hi).toArray⟩ = ⟨(Lib.itoa lo ++ [45] ++ Lib.itoa hi).toArray⟩) := by
    apply hide
    apply ByteArray.ext
    simp [ByteArray.data_append]
  have la : (Lib.itoa (lo : Int)).length ≤ 21 := Lib.itoa_length_le _ (by omega) (by omega)
  have lb : (Lib.itoa (hi : Int)).length ≤ 21 := Lib.itoa_length_le _ (by omega) (by omega)
  have n1 : ¬ 9223372036854775807 < (Lib.itoa (lo : Int)).length + 1 := by omega
  have n2 : ¬ 9223372036854775807 < (Lib.itoa (lo : Int)).length + 1 + (Lib.itoa (hi : Int)).length := by omega
  go_enter Tryd.func55, Tryd.ntmps55
  go_upto_region 1 with fail
  have HB := hide (blk_new w #[.int .i64 (lo : Int), .int .i64 (hi : Int)] 79)
  have HBE := hide (belA (.cells #[.int .i64 (lo : Int), .int .i64 (hi : Int)] 79) (Below.refl w.heap.size w))
  generalize hW : (w.alloc (.cells #[.int .i64 (lo : Int), .int .i64 (hi : Int)] 79)) = W at HB HBE ⊢
  clear hW
  have c0 : W.cell? ⟨w.heap.size, 0, none⟩ = some (.int .i64 (lo : Int)) := blk_cell (unhide HB) 0
  have c1 : W.cell? ⟨w.heap.size, 1, none⟩ = some (.int .i64 (hi : Int)) := blk_cell (unhide HB) 1
  go_region_held3 (fun w' => w'.cell? ⟨w.heap.size, 0, none⟩ = some (.int .i64 (lo : Int)) ∧ w'.cell? ⟨w.heap.size, 1, none⟩ = some (.int .i64 (hi : Int))) (refine ⟨?_, ?_⟩ <;> (repeat (first | assumption | apply cD | apply cG)))
    (first | (go_at_call 53; refine (Tryd.strconv_Itoa _ (by omega) (by omega) _ ?_).mono ?_; (refine (unhide HT).below ?_; (repeat (first | exact unhide HBE | apply belD | apply belG))); rintro e w2 ⟨rfl, k, os, rfl⟩))
  all_goals
    clear n1 n2 la lb c0 c1
    go_wp2_with fail
    go_returns
    refine ⟨ret_str (unhide hcat), ?_⟩
    repeat (first | exact unhide HBE | apply belD | apply belG)

end Go.Proofs.YtppcnlkhdgmaiaaDoor
namespace Go.Proofs.YtppcnlkhdgmaiaaDoor
open Go.RowKit

theorem sizeB : (Tryd.prog.info? 135).map (·.size) = some 2 := by kernel_rfl
theorem liesB : liesAt Tryd.prog Tryd.prog.depth 135 (2 / Tryd.prog.cellsOf 135) 0 135 1 = true := by kernel_rfl
theorem infoB : (Tryd.prog.info? 5).map (fun i => (i.zero, i.size, i.bytes)) = some (some (.int .u8 0), 1, 1) := by kernel_rfl

set_option maxHeartbeats 1000000 in
set_option maxRecDepth 100000 in
theorem cc_used (b : Nat) (w : World) (h0 : w.cell? ⟨b, 0, none⟩ = some (.pointer (some ⟨b, 0, none⟩))) :
    Calls Tryd.prog 74 #[.pointer (some ⟨b, 0, none⟩)] w fun e w' => e = .returned (.tuple #[]) ∧ w' = w := by
  obtain ⟨j, hj, _⟩ := Option.map_eq_some_iff.1 sizeB
  go_enter Tryd.func74, Tryd.ntmps74
  go_wp2
  rw [Lib.run_neq_ptr_same w _ Tryd.underlying133 hj]
  go_wp2
  go_end0
  exact ⟨rfl, rfl⟩

set_option maxHeartbeats 1000000 in
set_option maxRecDepth 100000 in
theorem cc_fresh (b : Nat) (w : World) (h0 : w.cell? ⟨b, 0, none⟩ = some (.pointer none)) (hsh : w.shape? b = some (135, 2)) (hfz : w.frozen? ⟨b, 0, none⟩ = false) :
    Calls Tryd.prog 74 #[.pointer (some ⟨b, 0, none⟩)] w fun e w' => e = .returned (.tuple #[]) ∧ w' = w.setCell ⟨b, 0, none⟩ (.pointer (some ⟨b, 0, none⟩)) := by
  obtain ⟨j, hj, hjs⟩ := Option.map_eq_some_iff.1 sizeB
  go_enter Tryd.func74, Tryd.ntmps74
  go_wp2
  rw [Lib.run_to_unsafe w ⟨b, 0, none⟩ Tryd.underlying133 Tryd.underlying179 hj (by rw [hjs]; decide) hsh (Nat.zero_lt_succ 1)]
  simp only [Result.andThen]
  rw [Oper.upon_value]
  go_wp2
  rw [run_callFunc_extern Tryd.func90 (by kernel_rfl) (by kernel_rfl) (by kernel_rfl) (e := Extern.AbiNoEscape.same) (by kernel_rfl)]
  rw [Lib.run_noEscape]
  simp only [Result.andThen]
  rw [Oper.upon_value]
  go_wp2
  rw [Lib.run_from_unsafe w ⟨b, 0, none⟩ Tryd.underlying179 Tryd.underlying133 hj hsh liesB]
  simp only [Result.andThen]
  rw [Oper.upon_value]
  go_wp2
  go_end0
  exact ⟨rfl, rfl⟩

theorem cc_any (B b : Nat) (bs : List Value) (w : World) (h : Lib.IsBuilder 135 5 B b bs w) :
    Calls Tryd.prog 74 #[.pointer (some ⟨b, 0, none⟩)] w fun e w' => e = .returned (.tuple #[]) ∧ (Lib.BuilderAt 135 5 B b (.pointer (some ⟨b, 0, none⟩)) bs w' ∧ Below B w w') := by
  rcases h with h | h
  · refine (cc_fresh b w h.cell0 h.shape h.frozen0).mono ?_
    rintro e w' ⟨rfl, rfl⟩
    exact ⟨rfl, h.used _, (Below.refl B w).setCell (p := ⟨b, 0, none⟩) h.1 _⟩
  · refine (cc_used b w h.cell0).mono ?_
    rintro e w' ⟨rfl, rfl⟩
    exact ⟨rfl, h, Below.refl B _⟩

end Go.Proofs.YtppcnlkhdgmaiaaDoor
namespace Go.Proofs.YtppcnlkhdgmaiaaDoor
open Go.RowKit

set_option maxHeartbeats 1000000 in
set_option maxRecDepth 100000 in
theorem ws_any (B b : Nat) (bs : List Value) (s : ByteArray) (w : World) (h : Lib.IsBuilder 135 5 B b bs w) (hlen : bs.length + s.size ≤ 1000000) (hBw : B ≤ w.heap.size) :
    Calls Tryd.prog 52 #[.pointer (some ⟨b, 0, none⟩), .string s] w fun e w' => e = .returned (.tuple #[.int .i64 s.size, .nilIface]) ∧ (Lib.BuilderAt 135 5 B b (.pointer (some ⟨b, 0, none⟩)) (bs ++ Lib.strCells s) w' ∧ Below B w w') := by
  obtain ⟨i0, hi, hz0, hz1, hz2⟩ := info_parts infoB
  have HI := hide hi
  have HZ0 := hide hz0
  have HZ1 := hide hz1
  have HZ2 := hide hz2
  have HH := hide h
  clear hi hz0 hz1 hz2 h
  go_enter Tryd.func52, Tryd.ntmps52
  go_wp2_with (go_at_call 74; refine (cc_any B b bs _ (unhide HH)).mono ?_)
  rintro e w1 ⟨rfl, ⟨hB, v, hbk, hown, hne⟩, hb1⟩
  have HK := hide hbk
  have HO := hide hown
  have HB1 := hide hb1
  have c1 : w1.cell? ⟨b, 1, none⟩ = some v := blk_cell hbk 1
  have hsz := hb1.size
  clear hbk hown hb1
  go_wp2_with (at_builtin; refine Lib.wpList_append_own_string _ rfl _ _ 127 9 rfl B 5 i0 Tryd.underlying127 Tryd.underlying9 (unhide HI) (unhide HZ0) (unhide HZ1) (unhide HZ2) _ _ _ rfl (unhide HO) s rfl ?c3 ?c4 ?c5 ?_)
  case c3 => unfold maxLen; omega
  case c4 => omega
  case c5 => omega
  intro v' w2 hown' hgrow _
  have hb2 : w2.heap[b]? = some (.cells #[.pointer (some ⟨b, 0, none⟩), v] 135 (0, 0)) := by
    rw [hgrow.block b (lt_of_block (unhide HK)) (fun e => hne e.symm)]
    exact unhide HK
  have HK2 := hide hb2
  have HO2 := hide hown'
  have HG2 := hide hgrow
  have f1 : w2.frozen? ⟨b, 1, none⟩ = false := Lib.frozen_of_heap hb2 1
  have d1 : w2.cell? ⟨b, 1, none⟩ = some v := blk_cell hb2 1
  obtain ⟨ao, cap, rfl⟩ := own_form hown'
  clear hb2 hown' hgrow
  go_wp2_with fail
  go_ret2
  refine ⟨rfl, ?_, ?_⟩
  · exact Lib.BuilderAt.put (T := 135) (e := 5) hB (unhide HK2) (bs' := bs ++ Lib.strCells s) (by simpa [Lib.strCells_length] using unhide HO2) (by decide)
  · exact ((unhide HB1).grown (unhide HG2) (by omega) (fun k hk => ((unhide HO).lt k hk).1)).setCell (p := ⟨b, 1, none⟩) hB _

end Go.Proofs.YtppcnlkhdgmaiaaDoor
namespace Go.Proofs.YtppcnlkhdgmaiaaDoor
open Go.RowKit

def repC (n k : Nat) : List Value := List.replicate k (.int .i64 (-1)) ++ List.replicate (n - k) (.int .i64 0)

theorem repC_zero (n : Nat) : repC n 0 = List.replicate n (.int .i64 0) := by simp [repC]
theorem repC_full (n : Nat) : repC n n = List.replicate n (.int .i64 (-1)) := by simp [repC]
theorem repC_length {n k : Nat} (h : k ≤ n) : (repC n k).length = n := by simp [repC]; omega
theorem repC_splice {n k c : Nat} : splice (repC n k) k (List.replicate c (.int .i64 (-1))) = repC n (k + c) := by
  unfold splice repC
  rw [List.length_replicate, List.take_left' (by simp), ← List.drop_drop, List.drop_left' (by simp), List.drop_replicate, ← List.append_assoc, List.replicate_append_replicate]
  congr 2
  omega
theorem repC_get {n k j : Nat} (h : j < k) : (repC n k)[j]? = some (.int .i64 (-1)) := by
  unfold repC
  rw [List.getElem?_append_left (by simpa using h), List.getElem?_replicate, if_pos h]
theorem own_full {w : World} {base : Nat} {e : TypeId} {g n : Nat} {xs : List Value} (h : w.ownsRow base e 1 (.slice (some ⟨g, 0, none⟩) n n) n xs) : w.heap[g]? = some (.cells xs.toArray e (0, 0)) := by
  obtain ⟨hl, ⟨hv, _⟩ | ⟨g', cap, cur, hv, _, hh, _, _, hs, ht⟩⟩ := h
  · cases hv
  · cases hv
    rw [hh]
    congr 2
    rw [← ht, List.take_of_length_le (by simpa using Nat.le_of_eq hs)]

theorem made_zero (n : Nat) : (madeCells (Value.int .i64 0).cells (n * 1)).toList = List.replicate n (.int .i64 0) := by
  show (madeCells #[Value.int .i64 0] (n * 1)).toList = _
  rw [toList_madeCells_one, Nat.mul_one]

set_option maxRecDepth 100000 in
set_option maxHeartbeats 400000 in
theorem repeat_any (b n : Nat) (w : World) (hb : w.cell? ⟨b, 0, none⟩ = some (.int .i64 (-1))) (hbl : b < w.heap.size) (hn1 : 1 ≤ n) (hn : n ≤ 1000) :
    Calls Tryd.prog 54 #[.slice (some ⟨b, 0, none⟩) 1 1, .int .i64 (n : Int)] w fun e w' => e = .returned (.slice (some ⟨w.heap.size, 0, none⟩) n n) ∧ w'.heap[w.heap.size]? = some (.cells (List.replicate n (.int .i64 (-1))).toArray 3 (0, 0)) ∧ Below w.heap.size w w' := by
  obtain ⟨i3, hi3, hz30, hz31, hz32⟩ := info_parts Tryd.info3
  have HI3 := hide hi3
  have HZ30 := hide hz30
  have HZ31 := hide hz31
  have HZ32 := hide hz32
  have HB := hide hb
  clear hb hi3 hz30 hz31 hz32
  have hnI : ¬ ((n : Int) < 0) := by omega
  have d1 : (1 * n / 18446744073709551616 : Nat) = 0 := by omega
  have d2 : (1 * n % 18446744073709551616 : Nat) = n := by omega
  have HM := hide (Tryd.bits_Mul 1 n (by omega) (by omega))
  rw [d1, d2] at HM
  clear d1 d2
  go_enter Tryd.func54, Tryd.ntmps54
  go_upto_region 7 with (first
    | (go_at_call 76; refine (unhide HM _).mono ?_; rintro e w1 ⟨rfl, hw⟩; rw [hw]; clear hw w1)
    | (at_make; refine wpList_make_full _ rfl _ _ 49 rfl w.heap.size 3 i3 (.int .i64 0) 1 Tryd.underlying49 (unhide HI3) (unhide HZ30) (unhide HZ31) _ _ _ _ n rfl rfl (by simp) (by simp) (by rw [unhide HZ32]; omega) (by unfold maxLen; omega) (Nat.le_refl _) ?_; intro w2 hown2 hgrow2))
  have HG : Hid (w2.heap[w.heap.size]? = some (.cells (repC n 0).toArray 3 (0, 0))) := by
    have := own_full hown2
    rw [made_zero] at this
    rw [repC_zero]; exact this
  have HB2 := hide ((Below.refl w.heap.size w).grown hgrow2 (Nat.le_refl _) (fun k e => by cases e))
  have HS : Hid (w2.cell? ⟨b, 0, none⟩ = some (.int .i64 (-1))) := by
    show _ = _
    rw [(unhide HB2).cell hbl]; exact unhide HB
  clear hown2 hgrow2 HB
  have HSZ : Hid ((Tryd.prog.info? 3).map (·.size) = some 1) := by
    show _ = _
    rw [unhide HI3]; simp [unhide HZ31]
  have HN : Hid ((List.replicate 1 (Value.int .i64 (-1))).length = Nat.min 1 n) := by
    show _ = _
    rw [List.length_replicate]; exact (Nat.min_eq_left hn1).symm
  have HP : Hid (0 < (List.replicate 1 (Value.int .i64 (-1))).length → (some (⟨w.heap.size, 0, none⟩ : Addr) = some ⟨w.heap.size, 0, none⟩) ∧ ∃ ad, (some (⟨b, 0, none⟩ : Addr)) = some ad ∧ ∀ j v, (List.replicate 1 (Value.int .i64 (-1)))[j]? = some v → w2.cell? (ad.add j) = some v) := by
    intro _
    refine ⟨rfl, _, rfl, ?_⟩
    intro j v hj
    match j, hj with
    | 0, hj => cases hj; exact unhide HS
  have HF : Hid (0 + (List.replicate 1 (Value.int .i64 (-1))).length ≤ (repC n 0).length) := by
    show _ ≤ _
    rw [repC_length (Nat.zero_le _)]; simpa using hn1
  have HO : Hid (∀ v ∈ (List.replicate 1 (Value.int .i64 (-1))), v.oneCell' = true) := by
    intro v hv
    cases List.eq_of_mem_replicate hv; rfl
  have HE : Hid (splice (repC n 0) 0 (List.replicate 1 (.int .i64 (-1))) = repC n 1) := repC_splice
  go_wp2_with (show wpList _ _ _ ({ dst := some 33, op := _, type := _, pos := _, after := _, guard := _ } :: _) _ _; refine wpList_copy_splice rfl (.tmp 31) (.tmp 32) 49 49 rfl 3 Tryd.underlying49 (unhide HSZ) _ _ _ _ _ _ rfl rfl w.heap.size 0 (repC n 0) 3 (unhide HG) (List.replicate 1 (.int .i64 (-1))) (unhide HN) (unhide HP) (unhide HF) (unhide HO) w.heap.size w (unhide HB2) (Nat.le_refl _) ?_; intro w3 hg3 hb3; rw [unhide HE] at hg3; have HB3 := hide hb3; clear hb3 HP HS HG HB2 HE)
  go_loopg [8] (n - 1) (fun gk kk wr => ∃ k : Nat, 1 ≤ k ∧ k ≤ n ∧ gk = n - k ∧ kk = .int .i64 (k : Int) ∧ wr.heap[w.heap.size]? = some (.cells (repC n k).toArray 3 (0, 0)) ∧ Below w.heap.size w wr)
  case atStart => exact ⟨1, Nat.le_refl _, hn1, rfl, rfl, hg3, unhide HB3⟩
  case round =>
    obtain ⟨k, hk1, hk, rfl, rfl, hg, hbe⟩ := hrel
    have HG := hide hg
    have HBE := hide hbe
    clear hg hbe
    by_cases hlt : k < n
    · obtain ⟨c, hc⟩ : ∃ c, c = min k (n - k) := ⟨_, rfl⟩
      obtain ⟨X, hX⟩ : ∃ X, X = List.replicate c (Value.int .i64 (-1)) := ⟨_, rfl⟩
      have hcn : k + c ≤ n := by omega
      have hck : c ≤ k := by omega
      have hc1 : 1 ≤ c := by omega
      have HX : Hid (X.length = c) := by
        show _ = _
        rw [hX]; simp
      have HN2 : Hid (X.length = Nat.min k (n - k)) := by
        show _ = _
        rw [unhide HX, hc]
      have HP2 : Hid (0 < X.length → (some (⟨w.heap.size, k, none⟩ : Addr) = some ⟨w.heap.size, k, none⟩) ∧ ∃ ad, (some (⟨w.heap.size, 0, none⟩ : Addr)) = some ad ∧ ∀ j v, X[j]? = some v → wr.cell? (ad.add j) = some v) := by
        intro _
        refine ⟨rfl, _, rfl, ?_⟩
        intro j v hj
        rw [hX, List.getElem?_replicate] at hj
        split at hj
        · cases hj
          rename_i hjc
          have := blk_cell (unhide HG) j
          rw [show (Addr.add ⟨w.heap.size, 0, none⟩ j : Addr) = ⟨w.heap.size, j, none⟩ by simp [Addr.add]; intro h; exact h.symm]
          rw [this]
          simpa using repC_get (n := n) (k := k) (j := j) (by omega)
        · cases hj
      have HF2 : Hid (k + X.length ≤ (repC n k).length) := by
        show _ ≤ _
        rw [repC_length hk, unhide HX]; exact hcn
      have HO2 : Hid (∀ v ∈ X, v.oneCell' = true) := by
        intro v hv
        rw [hX] at hv
        cases List.eq_of_mem_replicate hv; rfl
      have HE2 : Hid (splice (repC n k) k X = repC n (k + c)) := by
        show _ = _
        rw [hX]; exact repC_splice
      have k0 : (0 : Int) ≤ (k : Int) := by omega
      have k1 : (k : Int) ≤ (n : Int) := by omega
      have k2 : (k : Int) < (n : Int) := by omega
      have k3 : ¬ ((k : Int) = (n : Int)) := by omega
      have k4 : ¬ (k = n) := by omega
      clear hc hX HN HF HO
      go_upto_region 9 with fail
      go_region_law (refine step_copy_splice rfl (.tmp 41) (.tmp 44) 49 49 rfl 3 Tryd.underlying49 (unhide HSZ) (some ⟨w.heap.size, k, none⟩) (some ⟨w.heap.size, 0, none⟩) (n - k) (n - k) k n (by simp [Act.eval, Act.put]; omega) (by simp [Act.eval, Act.put]) w.heap.size k (repC n k) 3 (unhide HG) X (unhide HN2) (unhide HP2) (unhide HF2) (unhide HO2) w.heap.size w ((unhide HBE).drew) (Nat.le_refl _) ?_; intro w4 hg4 hb4)
      rw [unhide HE2] at hg4
      have HG4 := hide hg4
      have HB4 := hide hb4
      have hXl := unhide HX
      clear hg4 hb4 HE2 HP2 HF2 HO2 HN2 HX
      rw [hXl]
      clear hXl
      go_wp2_with fail
      go_roundg (n - (k + c))
      case measure => omega
      case rel =>
        have hw : IntKind.i64.wrap ((k : Int) + (c : Int)) = (k : Int) + (c : Int) := IntWalk.i64_in _ ⟨by omega, by omega⟩
        exact ⟨k + c, by omega, hcn, rfl, by rw [hw]; go_num, unhide (unhide HG4), unhide HB4⟩
    · have hkn : k = n := by omega
      subst hkn
      go_wp2_with fail
      go_returns
      exact ⟨rfl, by rw [← repC_full]; exact unhide HG, unhide HBE⟩

end Go.Proofs.YtppcnlkhdgmaiaaDoor
namespace Go.Proofs.YtppcnlkhdgmaiaaDoor
open Go.RowKit

theorem Hx.filter_or {α : Type} (p q : α → Bool) (l : List α) : (l.filter (fun x => p x || q x)).length ≤ (l.filter p).length + (l.filter q).length := by
  induction l with
  | nil => simp
  | cons a l ih =>
    simp only [List.filter_cons]
    cases p a <;> cases q a <;> simp <;> omega
theorem Hx.filter_eq_le (z : Int) (N : Nat) : ((List.range N).filter (fun k : Nat => (k : Int) == z)).length ≤ 1 := by
  induction N with
  | zero => simp
  | succ N ihN =>
    rw [List.range_succ, List.filter_append, List.length_append]
    by_cases e : ((N : Int) == z) = true
    · have : (List.range N).filter (fun k : Nat => (k : Int) == z) = [] := by
        rw [List.filter_eq_nil_iff]
        intro k hk hz
        have := List.mem_range.1 hk
        simp at e hz
        omega
      rw [this, List.length_nil, Nat.zero_add]
      exact List.length_filter_le _ _
    · have : [N].filter (fun k : Nat => (k : Int) == z) = [] := by
        rw [List.filter_eq_nil_iff]
        intro k hk hz
        rw [List.mem_singleton.1 hk] at hz
        exact e hz
      rw [this, List.length_nil, Nat.add_zero]
      exact ihN
/-- How many of the first N numbers are in a list: no more than it is long. -/
theorem Hx.inN_le (zs : List Int) (N : Nat) : ((List.range N).filter (fun k : Nat => zs.contains (k : Int))).length ≤ zs.length := by
  induction zs with
  | nil => simp
  | cons z zs ih =>
    have h1 := Hx.filter_or (fun k : Nat => (k : Int) == z) (fun k : Nat => zs.contains (k : Int)) (List.range N)
    have h2 := Hx.filter_eq_le z N
    have e : (fun k : Nat => (z :: zs).contains (k : Int)) = (fun k : Nat => (k : Int) == z || zs.contains (k : Int)) := by
      funext k; rw [List.contains_cons]
    rw [e, List.length_cons]
    omega

def Hx.freeF (zs : List Int) : Nat → Nat → Nat
  | 0, k => k
  | f + 1, k => if zs.contains (k : Int) then freeF zs f (k + 1) else k

theorem Hx.freeF_spec (zs : List Int) : ∀ f k, (∀ j : Nat, j < k → zs.contains (j : Int) = true) → (∀ j : Nat, j < Hx.freeF zs f k → zs.contains (j : Int) = true) ∧ (Hx.freeF zs f k = k + f ∨ zs.contains (Hx.freeF zs f k : Int) = false) ∧ Hx.freeF zs f k ≤ k + f := by
  intro f
  induction f with
  | zero => intro k h; exact ⟨h, Or.inl rfl, Nat.le_refl _⟩
  | succ f ih =>
    intro k h
    unfold freeF
    by_cases e : zs.contains (k : Int) = true
    · rw [if_pos e]
      obtain ⟨a, b, c⟩ := ih (k + 1) (fun j hj => by
        by_cases hk : j = k
        · subst hk; exact e
        · exact h j (by omega))
      exact ⟨a, b.imp (fun x => by omega) id, by omega⟩
    · rw [if_neg e]
      exact ⟨h, Or.inr (by simpa using e), by omega⟩

/-- The lowest number that is not in the list. -/
def Hx.lowF (zs : List Int) : Nat := Hx.freeF zs (zs.length + 1) 0

theorem Hx.lowF_spec (zs : List Int) : (∀ j : Nat, j < Hx.lowF zs → zs.contains (j : Int) = true) ∧ zs.contains (Hx.lowF zs : Int) = false ∧ Hx.lowF zs ≤ zs.length := by
  obtain ⟨a, b, c⟩ := Hx.freeF_spec zs (zs.length + 1) 0 (fun j hj => absurd hj (Nat.not_lt_zero _))
  change (∀ j : Nat, j < Hx.lowF zs → zs.contains (j : Int) = true) at a
  change Hx.lowF zs = _ ∨ zs.contains (Hx.lowF zs : Int) = false at b
  have key : Hx.lowF zs ≤ zs.length := by
    have h := Hx.inN_le zs (Hx.lowF zs)
    rw [List.filter_eq_self.2 (fun k hk => a k (List.mem_range.1 hk)), List.length_range] at h
    exact h
  refine ⟨a, ?_, key⟩
  rcases b with b | b
  · exact absurd b (by show ¬ Hx.lowF zs = _; omega)
  · exact b

/-- Bounds as they are written. -/
def Hx.bndB (lo hi : Nat) : List UInt8 := Lib.itoa lo ++ [45] ++ Lib.itoa hi

/-- What is written of a step ahead of its rests; of the rest that ends; of the rest that begins. -/
def Hx.wHead (t : Hx.Trn) (T : Int) : List UInt8 := [59] ++ (Hx.nameB t.pl t.no).data.toList ++ [64] ++ Lib.itoa T ++ [43] ++ Hx.bndB t.x.lo t.x.hi
def Hx.wOut (t : Hx.Trn) (st : List Int) : List UInt8 := if t.x.rest then [60] ++ Lib.itoa (st.getD t.pl 0) ++ [58] ++ Hx.bndB t.x.mn t.x.mx else []
def Hx.sOut (t : Hx.Trn) (st : List Int) : List Int := if t.x.rest then st.set t.pl (-1) else st
def Hx.wIn (t : Hx.Trn) (st : List Int) : List UInt8 := if t.beg then [62] ++ Lib.itoa (Hx.lowF st) else []
def Hx.sIn (t : Hx.Trn) (st : List Int) : List Int := if t.beg then st.set t.pl (Hx.lowF st : Int) else st

/-- What is written from a place of the order on, with the places as they are. -/
def Hx.wAll : List (Hx.Trn × Int) → List Int → List UInt8
  | [], _ => []
  | (t, T) :: l, st => Hx.wHead t T ++ Hx.wOut t st ++ Hx.wIn t (Hx.sOut t st) ++ Hx.wAll l (Hx.sIn t (Hx.sOut t st))

/-- What is written of a timetable. -/
def Hx.writeF (J n : Nat) (l : List (Hx.Trn × Int)) : List UInt8 := [106] ++ Lib.itoa J ++ Hx.wAll l (List.replicate n (-1))

theorem low_at (b n c : Nat) (zs : List Int) (w : World) (hz : n = zs.length) (hbig : n ≤ 100000) (hc : ∀ j, j < zs.length → w.cell? ⟨b, 0 + j, none⟩ = some (.int .i64 (zs.getD j 0))) :
    Calls Tryd.prog 56 #[.slice (some ⟨b, 0, none⟩) n c] w fun e w' => e = .returned (.int .i64 (Hx.lowF zs : Int)) ∧ w' = w := by
  obtain ⟨h1, h2, h3⟩ := Hx.lowF_spec zs
  exact low_any b n c (Hx.lowF zs) zs w hz hbig hc (by omega) h1 h2

end Go.Proofs.YtppcnlkhdgmaiaaDoor
namespace Go.Proofs.YtppcnlkhdgmaiaaDoor
open Go.RowKit
namespace Hx

def SmS (x : Stp) : Prop := x.lo < 1000 ∧ x.hi < 1000 ∧ x.mn < 1000 ∧ x.mx < 1000
theorem afterF_app (s : ByteArray) (st : St) (acc : List Stp) : ∃ r, (afterF s st acc).2 = acc ++ r ∧ ∀ x ∈ r, SmS x := by
  induction st, acc using afterF.induct s with
  | case1 st acc h => rw [afterF_bad h]; exact ⟨[], by simp, fun _ h => by cases h⟩
  | case2 st acc h e r ih =>
    rw [afterF_comma (by simpa using h) e]
    obtain ⟨q, h1, h2⟩ := ih
    refine ⟨_ :: q, by rw [h1, List.append_assoc]; rfl, fun x hx => ?_⟩
    rcases List.mem_cons.1 hx with rfl | hx
    · exact ⟨boundsF_lo s _, boundsF_hi s _, (by decide : (0 : Nat) < 1000), (by decide : (0 : Nat) < 1000)⟩
    · exact h2 x hx
  | case3 st acc h e e2 r ih =>
    rw [afterF_rest (by simpa using h) e2]
    obtain ⟨q, h1, h2⟩ := ih
    refine ⟨_ :: q, by rw [h1, List.append_assoc]; rfl, fun x hx => ?_⟩
    rcases List.mem_cons.1 hx with rfl | hx
    · exact ⟨boundsF_lo s _, boundsF_hi s _, boundsF_lo s _, boundsF_hi s _⟩
    · exact h2 x hx
  | case4 st acc h e e2 => rw [afterF_stop e e2]; exact ⟨[], by simp, fun _ h => by cases h⟩
/-- A plate as it is read. -/
def PlOk (p : List Stp) : Prop := ∃ x r, p = x :: r ∧ x.rest = false ∧ ∀ y ∈ p, SmS y
theorem plateF_ok (s : ByteArray) (n : Nat) (st : St) : PlOk (plateF s n st).2 := by
  obtain ⟨r, h1, h2⟩ := afterF_app s (boundsF s (openF s n st)).2 [⟨(boundsF s (openF s n st)).1.lo, (boundsF s (openF s n st)).1.hi, false, 0, 0⟩]
  refine ⟨_, r, h1, rfl, fun y hy => ?_⟩
  unfold plateF at hy
  rw [h1] at hy
  rcases List.mem_cons.1 hy with rfl | hy
  · exact ⟨boundsF_lo s _, boundsF_hi s _, (by decide : (0 : Nat) < 1000), (by decide : (0 : Nat) < 1000)⟩
  · exact h2 y hy
theorem platesF_ok (s : ByteArray) (st : St) (acc : List (List Stp)) (h : ∀ p ∈ acc, PlOk p) : ∀ p ∈ (platesF s st acc).2, PlOk p := by
  induction st, acc using platesF.induct s with
  | case1 st acc hb => rw [platesF_bad hb]; exact h
  | case2 st acc hb he =>
    rw [platesF_end (by simpa using hb) he]
    intro p hp
    rcases List.mem_append.1 hp with hp | hp
    · exact h p hp
    · rw [List.mem_singleton.1 hp]; exact plateF_ok _ _ _
  | case3 st acc hb he ih =>
    rw [platesF_more (by simpa using hb) (by omega)]
    refine ih fun p hp => ?_
    rcases List.mem_append.1 hp with hp | hp
    · exact h p hp
    · rw [List.mem_singleton.1 hp]; exact plateF_ok _ _ _

/-- What is known of a right protocol. -/
structure GoodP (J K D : Nat) (ps : List (List Stp)) : Prop where
  fine : Fine ps
  small : Small ps
  right : ∀ q ∈ ps, ∀ x ∈ q, 1 ≤ x.lo ∧ x.lo ≤ x.hi ∧ (x.rest = true → 1 ≤ K ∧ x.mn ≤ x.mx)
  pos : 0 < ps.length
  le : ps.length ≤ 4
  five : ∀ q ∈ ps, q.length ≤ 5
  all : (labs ps).length ≤ 9
  j : J < 10
  k : K < 10
  d : D < 10000
theorem GoodP.goodC {J K D : Nat} {ps : List (List Stp)} (h : GoodP J K D ps) (v : Value) (b : Go.Proofs.YtppcnlkhdgmaiaaDoor.Bk) : GoodC ⟨J, K, D, v, ps, b⟩ :=
  ⟨h.fine, h.small, fun q hq x hx hr => ((h.right q hq x hx).2.2 hr).1, h.pos, h.le, h.all, h.j, h.k⟩

theorem good_prot {s : ByteArray} (h : (checkF s).1 = 0) : s.size ≤ 120 ∧ GoodP (headJ s).1 (headK s).1 (headD s).1 (protF s).2 := by
  unfold checkF at h
  split at h
  · cases h
  · split at h
    · cases h
    · rename_i h1 h2
      have hok : ∀ p ∈ (protF s).2, PlOk p := platesF_ok s _ [] (fun _ h => by cases h)
      have hpos := platesF_pos s (headD s).2 [] (by simpa [protF] using h2)
      unfold verdict at h
      split at h
      · cases h
      · rename_i hw
        split at h
        · cases h
        · rename_i hm
          simp only [manyB, Bool.not_eq_true, Bool.or_eq_false_iff, List.any_eq_false, decide_eq_true_eq, decide_eq_false_iff_not] at hm
          have hw' := List.findIdx?_eq_none_iff.1 hw
          refine ⟨by omega, ?_, ?_, ?_, hpos, by omega, fun q hq => by have := hm.1.1 q hq; omega, by rw [labs_len]; omega, numF_val s 1 _, numF_val s 1 _, numF_val s 4 _⟩
          · intro p q hq
            obtain ⟨x, r, e, hx, _⟩ := hok q (List.mem_of_getElem? hq)
            exact ⟨x, r, e, hx⟩
          · intro q hq x hx
            obtain ⟨_, _, _, _, hs⟩ := hok q hq
            exact hs x hx
          · intro q hq x hx
            have := hw' x (List.mem_flatten.2 ⟨q, hq, hx⟩)
            simp only [wrongB, Bool.or_eq_false_iff, Bool.and_eq_false_iff, decide_eq_false_iff_not, beq_eq_false_iff_ne] at this
            obtain ⟨⟨a, b⟩, c⟩ := this
            refine ⟨by omega, by omega, fun hr => ?_⟩
            rcases c with c | c
            · rw [hr] at c; cases c
            · omega

/-- Does Plan say that there are more orders? -/
def moreF (K : Nat) (ps : List (List Stp)) (N : Nat) : Bool := if N = 0 then true else lastB ((ordersF K ps).take N)
/-- An order and its times. -/
def pairs (o : List Trn) (f : Nat → Int) : List (Trn × Int) := o.mapIdx fun i t => (t, f i)
/-- What Plan answers of a protocol without a hopeless rest. -/
def planB (J K D : Nat) (ps : List (List Stp)) (N : Nat) : List UInt8 × Bool × Int :=
  match bestF J D ps (((ordersF K ps).take N).map (·.1)) with
  | some b => (writeF J ps.length (pairs (b.o.map (turnOfIdx ps)) b.f), !moreF K ps N, 0)
  | none => ([], false, if moreF K ps N then 8 else 7)
/-- P4: what Plan answers. -/
def planF (s : ByteArray) (N : Int) : List UInt8 × Bool × Int :=
  if (checkF s).1 ≠ 0 then ([], false, ((checkF s).1 : Int))
  else if N < 0 ∨ 1000 < N then ([], false, 5)
  else if (firstTight (headJ s).1 (labs (protF s).2)).isSome then ((nameB (tightT (headJ s).1 (protF s).2).pl (tightT (headJ s).1 (protF s).2).no).data.toList, false, 6)
  else planB (headJ s).1 (headK s).1 (headD s).1 (protF s).2 N.toNat

end Hx
end Go.Proofs.YtppcnlkhdgmaiaaDoor
