/-
  Part 3 of the texts ahead of Cal1: Nat9, Txt5, Txt6, Txt7, Nat10, Nat11, Who1, Who2.
-/
import Derived.Test.YtnhfdcfnojnofaaGreatDoorCal1Z2
import Derived.Lib.AppendIntMem
import Derived.Lib.ItoaMem
import Derived.Lib.Walk
import Derived.Shelf.Strings.BuilderK
import Derived.Deep.RegionWith
import Derived.Deep.LoopGhost
import Derived.Deep.RegionHeld
set_option linter.unusedSimpArgs false
set_option linter.unusedVariables false
/-
  What Apart of package natural does.
-/
namespace Go.Proofs.YtnhfdcfnojnofaaGreatDoor
open Go.RowKit

theorem U32s.drewN {w : World} {v : Value} {ds : List Nat} (h : U32s w v ds) (q : Nat) : U32s (w.drewN q) v ds := h
theorem NatV.drewN {w : World} {v : Value} {n : Nat} (h : NatV w v n) (q : Nat) : NatV (w.drewN q) v n := h
theorem below_ofDrewN {B q : Nat} {w w' : World} (h : Below B (w.drewN q) w') : Below B w w' := ⟨h.os, h.tape, h.output, h.size, h.block⟩
theorem below_toDrewN {B q : Nat} {w w' : World} (h : Below B w w') : Below B w (w'.drewN q) := ⟨h.os, h.tape, h.output, h.size, h.block⟩

set_option maxHeartbeats 400000 in
theorem trim_nil (w : World) (ao : Option Addr) (cap : Nat) :
    Calls Tryz.prog 225 #[.slice ao 0 cap] w fun e w' => e = .returned (.slice ao 0 cap) ∧ w' = w := by
  go_enter Tryz.func225, Tryz.ntmps225
  go_wp2
  go_loop [0] (fun v => v = .slice ao 0 cap) lenOf
  case atStart => rfl
  case round =>
    subst hrel
    go_wp2
    go_ret
    exact ⟨rfl, rfl⟩

set_option maxHeartbeats 400000 in
theorem takeTimes_nil (w : World) (ao ao' : Option Addr) (cap cap' n : Nat) (f : Int) :
    Calls Tryz.prog 312 #[.slice ao 0 cap, .slice ao' n cap', .int .u32 f] w fun e w' => e = .returned (.int .u64 0) ∧ w' = w := by
  go_enter Tryz.func312, Tryz.ntmps312
  go_wp2
  go_loop [7, 8, 13] (fun c b i => c = .int .u64 0 ∧ b = .int .u64 0 ∧ i = .int .i64 0) (fun _ _ _ => 0)
  case atStart => exact ⟨rfl, rfl, rfl⟩
  case round =>
    obtain ⟨rfl, rfl, rfl⟩ := hrel
    go_wp2
    go_ret
    exact ⟨rfl, rfl⟩

/-- What is behind the choice of the greater: clone, take, trim. -/
theorem apart_core {w w1 : World} {v x : Value} {ds es : List Nat} (hown : OwnU w w1 x ds) (hbel : Below w.heap.size w w1) (hlen : ds.length ≤ 1073741824) (hd : Dig ds) (hd' : Dig es) (hv : U32s w v es) (hes : es.length ≤ ds.length)
    (hle : val es ≤ val ds) :
    Calls Tryz.prog 312 #[x, v, .int .u32 1] w1 fun e w2 => (∃ r : Nat, e = .returned (.int .u64 (r : Nat))) ∧ Below w.heap.size w w2 ∧
      Calls Tryz.prog 225 #[x] w2 fun e w3 => ∃ y, e = .returned y ∧ NatV w3 y (val ds - val es) ∧ Below w.heap.size w w3 := by
  obtain ⟨ao, cap, rfl, hc, hr⟩ := hown
  by_cases h0 : ds = []
  · subst h0
    have h1 : es = [] := List.length_eq_zero_iff.1 (by simpa using hes)
    subst h1
    obtain ⟨ao', cap', rfl, _, _⟩ := hv
    refine (takeTimes_nil w1 ao ao' cap cap' 0 1).mono ?_
    rintro e w2 ⟨rfl, rfl⟩
    refine ⟨⟨0, rfl⟩, hbel, ?_⟩
    refine (trim_nil _ ao cap).mono ?_
    rintro e w3 ⟨rfl, rfl⟩
    exact ⟨_, rfl, NatV.zero _ _ _, hbel⟩
  · obtain ⟨g, rfl, hg, hgl, hrow, hfr⟩ := hr h0
    refine (takeTimes_any w1 g 0 cap 1 ds es v hc hlen hes (by omega) hrow hfr hd (hv.away hbel g hg) hd').mono ?_
    rintro e w2 ⟨ds', r, rfl, _, hl2, hd2, hrow2, hup2, hval2⟩
    have hb2 : Below w.heap.size w w2 := hbel.trans (hup2.below hg)
    refine ⟨⟨r, rfl⟩, hb2, ?_⟩
    refine (trim_any w2 g 0 cap ds.length ds' hc (by omega) (by omega) hrow2).mono ?_
    rintro e w3 ⟨rfl, rfl⟩
    refine ⟨_, rfl, ?_, hb2⟩
    have hfin := natV_trim (n := ds.length) hrow2 hd2 (by rw [hup2.size]; exact hgl) hl2 hc
    rw [sub_fits (a := ds) (b := es) hd2 hl2 hle hval2] at hfin
    exact hfin

set_option maxRecDepth 100000 in
set_option maxHeartbeats 1000000 in
theorem apart_any (w : World) (u v : Value) (m n K : Nat) (hu : NatV w u m) (hv : NatV w v n) (hm : m < 4294967296 ^ K) (hn : n < 4294967296 ^ K) (hK : K ≤ 1073741823) :
    Calls Tryz.prog 297 #[u, v] w fun e w' => ∃ x, e = .returned x ∧ NatV w' x ((m - n) + (n - m)) ∧ Below w.heap.size w w' := by
  obtain ⟨ds, hu1, hd, ht, hvu, hl⟩ := natV_u32 hu hm
  obtain ⟨es, hv1, hd', ht', hvv, hl'⟩ := natV_u32 hv hn
  by_cases hlt : m < n
  · have hle : ds.length ≤ es.length := by
      rcases Nat.lt_or_ge es.length ds.length with h | h
      · have := ht.lt_of_len hd' h; omega
      · exact h
    go_enter Tryz.func297, Tryz.ntmps297
    go_wp2_with fail
    refine (compare_any w u v m n K hu hv hm hn (by omega)).mono ?_
    rintro e w1 ⟨rfl, q, rfl⟩
    rw [cmpI_lt hlt]
    go_wp2_with fail
    refine (clone_any (w.drewN q) v es hv1 (by omega)).mono ?_
    rintro e w1 ⟨x, rfl, hown, hbel⟩
    have hcore := apart_core hown hbel (by omega) hd' hd (hu1.drewN q) hle (by omega)
    go_wp2_with fail
    refine hcore.mono ?_
    rintro e w2 ⟨⟨r, rfl⟩, hb2, hcore2⟩
    go_wp2_with fail
    refine hcore2.mono ?_
    rintro e w3 ⟨y, rfl, hy, hb3⟩
    go_wp2
    go_ret
    refine ⟨_, rfl, ?_, below_ofDrewN hb3⟩
    have e1 : (m - n) + (n - m) = val es - val ds := by omega
    rw [e1]
    exact hy
  · have hle : es.length ≤ ds.length := by
      rcases Nat.lt_or_ge ds.length es.length with h | h
      · have := ht'.lt_of_len hd h; omega
      · exact h
    have hc0 : 0 ≤ cmpI m n := by
      rcases Nat.lt_or_ge n m with h | h
      · rw [cmpI_gt h]; omega
      · rw [cmpI_eq (by omega)]; omega
    go_enter Tryz.func297, Tryz.ntmps297
    go_wp2_with fail
    refine (compare_any w u v m n K hu hv hm hn (by omega)).mono ?_
    rintro e w1 ⟨rfl, q, rfl⟩
    generalize cmpI m n = cc at *
    go_wp2_with fail
    refine (clone_any (w.drewN q) u ds hu1 (by omega)).mono ?_
    rintro e w1 ⟨x, rfl, hown, hbel⟩
    have hcore := apart_core hown hbel (by omega) hd hd' (hv1.drewN q) hle (by omega)
    go_wp2_with fail
    refine hcore.mono ?_
    rintro e w2 ⟨⟨r, rfl⟩, hb2, hcore2⟩
    go_wp2_with fail
    refine hcore2.mono ?_
    rintro e w3 ⟨y, rfl, hy, hb3⟩
    go_wp2
    go_ret
    refine ⟨_, rfl, ?_, below_ofDrewN hb3⟩
    have e1 : (m - n) + (n - m) = val ds - val es := by omega
    rw [e1]
    exact hy
end Go.Proofs.YtnhfdcfnojnofaaGreatDoor

/-
  Numbers written: strconv.FormatUint at base 10.
-/
namespace Go.Proofs.YtnhfdcfnojnofaaGreatDoor
open Go.RowKit Go.Sort Go.Lib

set_option maxHeartbeats 1000000 in
set_option maxRecDepth 100000 in
theorem intFormatUint_any (u : Nat) (hu64 : u < 18446744073709551616) (w : World) (htab : Lib.TabIs Tryz.prog w "internal/strconv.uint64pow10" .u64 Lib.pow10Tab) :
    Calls Tryz.prog 227 #[.int .u64 (u : Nat), .int .i64 10] w fun e w' => e = .returned (.string ⟨(Lib.decDigits u).toArray⟩) ∧ Below w.heap.size w w' := by
  by_cases hs : u < 100
  · have hs2 : (u : Int) < 100 := by omega
    go_enter Tryz.func227, Tryz.ntmps227
    go_wp2_with fail
    refine (Tryz.internal_strconv_small u hs _).mono ?_
    rintro e w' ⟨rfl, rfl⟩
    go_wp2
    go_ret
    exact ⟨rfl, Below.refl _ _⟩
  · have hu1 : 1 ≤ u := by omega
    have hnd20 : Lib.nDigits u ≤ 20 := by have := Lib.numDigits_eq u hu1 hu64; split at this <;> omega
    have hs2 : (100 : Int) ≤ (u : Int) := by omega
    have hal : Tryz.prog.arrayLen 234 = 24 := by simp [Program.arrayLen, Tryz.underlying234]
    have hsl1 : ∀ W, (Instr.sliceAt 234 (.pointer (some ⟨w.heap.size, 0, none⟩)) none (some (.int .i64 (Lib.nDigits u : Int))) none).run Tryz.prog W = .ok (.slice (some ⟨w.heap.size, 0, none⟩) (Lib.nDigits u) 24) W := fun W => by
      rw [run_sliceAt_array_h W 234 ⟨w.heap.size, 0, none⟩ (by simp [Program.arrayLen, Program.elem, Tryz.underlying234]) .i64 (Lib.nDigits u : Int) (by omega) (by rw [hal]; omega)]
      go_simp
    have hH0 := Lib.holds_zero0 w 234 (Lib.nDigits u) (by omega)
    have hfmt := Tryz.internal_strconv_formatBase10 w.heap.size 0 24 u (Array.replicate (Lib.nDigits u) 0) (w.alloc (.cells Lib.zeros24 234)) hH0 (by rw [Array.size_replicate]; exact Lib.lt_pow_nDigits u) hu64 (by rw [Array.size_replicate]; omega)
    rw [Array.size_replicate] at hfmt
    have HH0 := hide hH0
    have HF0 := hide hfmt
    clear hH0 hal hfmt
    go_enter Tryz.func227, Tryz.ntmps227
    go_wp2_with fail
    refine (Tryz.internal_strconv_numDigits u hu1 hu64 _ (Lib.tabIs_alloc htab _)).mono ?_
    rintro e w' ⟨rfl, rfl⟩
    go_wp2_with fail
    refine HF0.out.mono ?_
    rintro e w' ⟨rfl, k, v', dk, rfl, hF⟩
    have hcv : (convert 78 9 (.slice (some ⟨w.heap.size, 0, none⟩) (Lib.nDigits u) 24)).run Tryz.prog ((putRow (fun (b : UInt8) => Value.int .u8 (b.toNat : Int)) (w.alloc (.cells Lib.zeros24 234)) w.heap.size 0 dk).drewN k) = .ok (.string ⟨(Lib.decDigits u).toArray⟩) ((putRow (fun (b : UInt8) => Value.int .u8 (b.toNat : Int)) (w.alloc (.cells Lib.zeros24 234)) w.heap.size 0 dk).drewN k) := by
      have h := run_convert_bytes_back (P := Tryz.prog) ((putRow (fun (b : UInt8) => Value.int .u8 (b.toNat : Int)) (w.alloc (.cells Lib.zeros24 234)) w.heap.size 0 dk).drewN k) 78 9 5 ⟨w.heap.size, 0, none⟩ 24 (Lib.decDigits u) Tryz.underlying78 Tryz.underlying5 Tryz.underlying9 (fun j hj => by
        rw [Lib.row_is_numeral hF j hj, Lib.add_plain, World.cell?_drewN]
        exact cell?_putRow (fun (b : UInt8) => Value.int .u8 (b.toNat : Int)) _ w.heap.size 0 _ dk HH0.out (by rw [hF.size, Array.size_replicate]) j (by rw [hF.size]; rw [Lib.decDigits_length] at hj; exact hj))
      rw [Lib.decDigits_length] at h
      exact h
    have hbel : Below w.heap.size w ((putRow (fun (b : UInt8) => Value.int .u8 (b.toNat : Int)) (w.alloc (.cells Lib.zeros24 234)) w.heap.size 0 dk).drewN k) := by
      have hb1 : Below w.heap.size w (w.alloc (.cells Lib.zeros24 234)) := (Below.refl _ _).alloc (Nat.le_refl _) _
      refine below_toDrewN (hb1.trans ⟨rfl, rfl, rfl, ?_, ?_⟩)
      · simp [putRow, mapBlock]
      · intro i hi
        simp only [putRow, mapBlock, Array.getElem?_modify]
        rw [if_neg (by omega)]
    clear htab HF0
    go_wp2
    go_ret
    exact ⟨rfl, hbel⟩

set_option maxHeartbeats 400000 in
set_option maxRecDepth 100000 in
theorem formatUint_any (u : Nat) (hu64 : u < 18446744073709551616) (w : World) (htab : Lib.TabIs Tryz.prog w "internal/strconv.uint64pow10" .u64 Lib.pow10Tab) :
    Calls Tryz.prog 141 #[.int .u64 (u : Nat), .int .i64 10] w fun e w' => e = .returned (.string ⟨(Lib.decDigits u).toArray⟩) ∧ Below w.heap.size w w' := by
  go_enter Tryz.func141, Tryz.ntmps141
  go_wp2_with fail
  refine (intFormatUint_any u hu64 _ htab).mono ?_
  rintro e w' ⟨rfl, hb⟩
  go_wp2
  go_ret
  exact ⟨rfl, hb⟩
end Go.Proofs.YtnhfdcfnojnofaaGreatDoor

/-
  Numbers written: strings.Builder's WriteString.
-/
namespace Go.Proofs.YtnhfdcfnojnofaaGreatDoor
open Go.RowKit

theorem Tryz.sizeBuilder : (Tryz.prog.info? 140).map (·.size) = some 2 := by kernel_rfl
theorem Tryz.info5 : (Tryz.prog.info? 5).map (fun i => (i.zero, i.size, i.bytes)) = some (some (.int .u8 0), 1, 1) := by kernel_rfl
theorem Tryz.liesBuilder : Go.liesAt Tryz.prog Tryz.prog.depth 140 (2 / Tryz.prog.cellsOf 140) 0 140 1 = true := by kernel_rfl

set_option maxHeartbeats 1000000 in
set_option maxRecDepth 100000 in
theorem copyCheck_used (b : Nat) (w : World) (h0 : w.cell? ⟨b, 0, none⟩ = some (.pointer (some ⟨b, 0, none⟩))) :
    Calls Tryz.prog 153 #[.pointer (some ⟨b, 0, none⟩)] w fun e w' => e = .returned (.tuple #[]) ∧ w' = w := by
  obtain ⟨j, hj, hjs⟩ := Option.map_eq_some_iff.1 Tryz.sizeBuilder
  go_enter Tryz.func153, Tryz.ntmps153
  go_wp2
  rw [Lib.run_neq_ptr_same w _ Tryz.underlying138 hj]
  go_wp2
  go_end0
  exact ⟨rfl, rfl⟩

set_option maxHeartbeats 1000000 in
set_option maxRecDepth 100000 in
theorem copyCheck_fresh (b : Nat) (w : World) (h0 : w.cell? ⟨b, 0, none⟩ = some (.pointer none)) (hsh : w.shape? b = some (140, 2)) (hfz : w.frozen? ⟨b, 0, none⟩ = false) :
    Calls Tryz.prog 153 #[.pointer (some ⟨b, 0, none⟩)] w fun e w' => e = .returned (.tuple #[]) ∧ w' = w.setCell ⟨b, 0, none⟩ (.pointer (some ⟨b, 0, none⟩)) := by
  obtain ⟨j, hj, hjs⟩ := Option.map_eq_some_iff.1 Tryz.sizeBuilder
  go_enter Tryz.func153, Tryz.ntmps153
  go_wp2
  rw [Lib.run_to_unsafe w ⟨b, 0, none⟩ Tryz.underlying138 Tryz.underlying344 hj (by rw [hjs]; decide) hsh (Nat.zero_lt_succ 1)]
  simp only [Result.andThen]
  rw [Oper.upon_value]
  go_wp2
  rw [run_callFunc_extern Tryz.func243 (by kernel_rfl) (by kernel_rfl) (by kernel_rfl) (e := Extern.AbiNoEscape.same) (by kernel_rfl)]
  rw [Lib.run_noEscape]
  simp only [Result.andThen]
  rw [Oper.upon_value]
  go_wp2
  rw [Lib.run_from_unsafe w ⟨b, 0, none⟩ Tryz.underlying344 Tryz.underlying138 hj hsh Tryz.liesBuilder]
  simp only [Result.andThen]
  rw [Oper.upon_value]
  go_wp2
  go_end0
  exact ⟨rfl, rfl⟩

theorem copyCheck_k (B b : Nat) (bs : List Value) (w : World) (h : Lib.IsBuilderF 140 5 B b bs w) :
    Calls Tryz.prog 153 #[.pointer (some ⟨b, 0, none⟩)] w fun e w' => e = .returned (.tuple #[]) ∧ (Lib.BuilderAtF 140 5 B b (.pointer (some ⟨b, 0, none⟩)) bs w' ∧ Below B w w' ∧ Lib.OthersKept 5 (some b) w w') := by
  rcases h with h | h
  · refine (copyCheck_fresh b w h.cell0 h.shape h.frozen0).mono ?_
    rintro e w' ⟨rfl, rfl⟩
    exact ⟨rfl, h.used _, (Below.refl B w).setCell (p := ⟨b, 0, none⟩) h.1 _, (Lib.OthersKept.refl _ _ w).setCell ⟨b, 0, none⟩ rfl _⟩
  · refine (copyCheck_used b w h.cell0).mono ?_
    rintro e w' ⟨rfl, rfl⟩
    exact ⟨rfl, h, Below.refl B _, Lib.OthersKept.refl _ _ _⟩

set_option maxHeartbeats 1000000 in
set_option maxRecDepth 100000 in
theorem writeString_k (B b : Nat) (bs : List Value) (s : ByteArray) (w : World) (h : Lib.IsBuilderF 140 5 B b bs w) (hlen : bs.length + s.size ≤ 140737488355328) (hBw : B ≤ w.heap.size) :
    Calls Tryz.prog 85 #[.pointer (some ⟨b, 0, none⟩), .string s] w fun e w' => e = .returned (.tuple #[.int .i64 s.size, .nilIface]) ∧ (Lib.BuilderAtF 140 5 B b (.pointer (some ⟨b, 0, none⟩)) (bs ++ Lib.strCells s) w' ∧ Below B w w' ∧ Lib.OthersKept 5 (some b) w w') := by
  obtain ⟨i0, hi, hz0, hz1, hz2⟩ := info_parts Tryz.info5
  go_enter Tryz.func85, Tryz.ntmps85
  go_wp2_with fail
  refine (copyCheck_k B b bs _ h).mono ?_
  rintro e w1 ⟨rfl, h1, hb1, hk1⟩
  obtain ⟨hB, v, hbk, hown, hne⟩ := h1
  have c0 : w1.cell? ⟨b, 0, none⟩ = some (.pointer (some ⟨b, 0, none⟩)) := by rw [Lib.cell_of_heap hbk]; rfl
  have c1 : w1.cell? ⟨b, 1, none⟩ = some v := by rw [Lib.cell_of_heap hbk]; rfl
  go_wp2_with (at_builtin; refine Lib.wpList_append_own_stringF _ rfl _ _ 78 9 rfl B 5 i0 Tryz.underlying78 Tryz.underlying9 hi hz0 hz1 hz2 _ _ _ rfl hown s rfl ?c3 ?c4 ?c5 ?_)
  case c3 => unfold maxLen; omega
  case c4 => omega
  case c5 => have := hb1.size; omega
  intro v' w2 hown' hgrow _
  have hlt : b < w1.heap.size := by
    rcases Nat.lt_or_ge b w1.heap.size with h' | h'
    · exact h'
    · simp [Array.getElem?_eq_none h'] at hbk
  have hb2 : w2.heap[b]? = some (.cells #[.pointer (some ⟨b, 0, none⟩), v] 140 (0, 0)) := by
    rw [hgrow.block b hlt (fun e => hne e.symm)]
    exact hbk
  have d0 : w2.cell? ⟨b, 0, none⟩ = some (.pointer (some ⟨b, 0, none⟩)) := by rw [Lib.cell_of_heap hb2]; rfl
  have d1 : w2.cell? ⟨b, 1, none⟩ = some v := by rw [Lib.cell_of_heap hb2]; rfl
  have f1 : w2.frozen? ⟨b, 1, none⟩ = false := Lib.frozen_of_heap hb2 1
  obtain ⟨ao, n', cap, rfl⟩ : ∃ ao n' cap, v' = .slice ao n' cap := by
    rcases hown'.2 with ⟨hv, _⟩ | ⟨g, cap, cur, fz, hv, _⟩
    · exact ⟨_, _, _, hv⟩
    · exact ⟨_, _, _, hv⟩
  go_wp2
  go_ret2
  refine ⟨rfl, ?_, ?_, (hk1.grown hgrow (Lib.ownsRowF_kind hown)).setCell ⟨b, 1, none⟩ rfl _⟩
  · exact Lib.BuilderAtF.put (T := 140) (e := 5) hB hb2 (bs' := bs ++ Lib.strCells s) (by simpa [Lib.strCells_length] using hown') (by decide)
  · exact (hb1.grown hgrow (by have := hb1.size; omega) (fun k hk => (hown.lt k hk).1)).setCell (p := ⟨b, 1, none⟩) hB _
end Go.Proofs.YtnhfdcfnojnofaaGreatDoor

/-
  Numbers written: pieces.
-/
namespace Go.Proofs.YtnhfdcfnojnofaaGreatDoor
open Go.RowKit

/-- The number that pieces of nine decimal digits are, the least first. -/
def pval : List Nat → Nat
  | [] => 0
  | d :: ds => d + 1000000000 * pval ds

theorem pval_append (a b : List Nat) : pval (a ++ b) = pval a + 1000000000 ^ a.length * pval b := by
  induction a with
  | nil => simp [pval]
  | cons d ds ih =>
    simp only [List.cons_append, pval, List.length_cons, ih, Nat.pow_succ, Nat.mul_add]
    rw [Nat.mul_comm (1000000000 ^ ds.length) 1000000000, Nat.mul_assoc]
    omega

theorem pow9_len {L K n : Nat} (h1 : 1000000000 ^ L ≤ n) (h2 : n < 4294967296 ^ K) : L < K * 2 := by
  rcases Nat.lt_or_ge L (K * 2) with h | h
  · exact h
  · exfalso
    have e1 : 1000000000 ^ (K * 2) ≤ 1000000000 ^ L := Nat.pow_le_pow_right (by omega) h
    have e2 : (1000000000 : Nat) ^ (K * 2) = (1000000000 ^ 2) ^ K := by rw [Nat.mul_comm, Nat.pow_mul]
    have e3 : (4294967296 : Nat) ^ K ≤ (1000000000 ^ 2) ^ K := Nat.pow_le_pow_left (by decide) K
    omega

set_option maxHeartbeats 2000000 in
set_option maxRecDepth 100000 in
theorem pieces_any (w : World) (v : Value) (n K : Nat) (hv : NatV w v n) (hn0 : n ≠ 0) (hn : n < 4294967296 ^ K) (hK : K ≤ 100000000) :
    Calls Tryz.prog 140 #[v] w fun e w' => ∃ x ps, e = .returned x ∧ U32s w' x ps ∧ (∀ p ∈ ps, p < 1000000000) ∧ pval ps = n ∧ (∀ k, ps.length = k + 1 → ps.getD k 0 ≠ 0) ∧ ps.length ≤ K * 2 ∧ Below w.heap.size w w' := by
  obtain ⟨ds, hu, hd, ht, hvd, hl⟩ := natV_u32 hv hn
  obtain ⟨i0, hi, hz0, hz1, hz2⟩ := info_parts Tryz.info131
  have hds : ds ≠ [] := fun e => hn0 (by rw [← hvd, e]; rfl)
  go_enter Tryz.func140, Tryz.ntmps140
  go_wp2_with fail
  refine (clone_any _ _ ds hu (by omega)).mono ?_
  rintro e w1 ⟨x, rfl, ⟨ao, cap, rfl, hc, hr⟩, hbel⟩
  obtain ⟨g, rfl, hg, hgl, hrow, hfr⟩ := hr hds
  clear hr
  go_wp2
  go_loopg [3, 4] n (fun k pv lv wr => ∃ (ds' ps : List Nat) (ap : Option Addr) (kp : Nat), pv = .slice ap ps.length kp ∧ lv = .slice (some ⟨g, 0, none⟩) ds'.length cap ∧ ds'.length ≤ ds.length ∧ Row wr g 0 ds' ∧ Free wr g 0 ds.length ∧ Dig ds' ∧ Top ds' ∧ Hid (val ds' = k) ∧ g < wr.heap.size ∧ w1.heap.size ≤ wr.heap.size ∧ wr.ownsRow w1.heap.size 224 1 (.slice ap ps.length kp) ps.length (ps.map encD) ∧
      (∀ p ∈ ps, p < 1000000000) ∧ Hid (pval ps + 1000000000 ^ ps.length * k = n) ∧ Hid (k = 0 → ∀ j, ps.length = j + 1 → ps.getD j 0 ≠ 0) ∧ ps.length ≤ K * 2 ∧ Hid (ps ≠ [] ∨ k = n) ∧ Below w.heap.size w wr)
  case atStart => exact ⟨ds, [], none, 0, rfl, rfl, Nat.le_refl _, hrow, hfr, hd, ht, hvd, hgl, Nat.le_refl _, World.ownsRow_nil _ _ _ _, fun p hp => by simp at hp, by simp [Hid, pval], fun h => absurd h hn0, Nat.zero_le _, Or.inr rfl, hbel⟩
  case round =>
    obtain ⟨ds', ps, ap, kp, rfl, rfl, hdl, hrow', hfr', hd', ht', hv', hgl', hsz', hown, hps, hpv, hlast, hpl, hne, hbel'⟩ := hrel
    by_cases hk0 : gk = 0
    · have hds0 : ds' = [] := ht'.zero.1 (by rw [hv'.out]; exact hk0)
      subst hds0
      have HK := hide hk0
      clear hk0
      go_wp2
      go_ret
      have hpv2 := hpv.out
      rw [HK.out, Nat.mul_zero, Nat.add_zero] at hpv2
      have hpne : ps ≠ [] := by
        rcases hne.out with h | h
        · exact h
        · exact absurd (HK.out.symm.trans h).symm hn0
      refine ⟨_, ps, rfl, ?_, hps, hpv2, hlast.out HK.out, hpl, hbel'⟩
      have hvn : Value.slice ap ps.length kp ≠ .slice none 0 0 := by
        intro e
        simp only [Value.slice.injEq] at e
        exact hpne (List.length_eq_zero_iff.1 e.2.1)
      obtain ⟨g2, cap2, hvv, hn2, _, hg2, hrow2, _⟩ := owns_parts hown hvn
      simp only [Value.slice.injEq] at hvv
      obtain ⟨rfl, _, rfl⟩ := hvv
      exact ⟨_, _, rfl, hn2, fun _ => ⟨g2, 0, rfl, hg2, hrow2⟩⟩
    · have hv2 := hv'.out
      have hds0 : ds' ≠ [] := fun e => hk0 (by rw [← hv2, e]; rfl)
      have hdp : 0 < ds'.length := List.length_pos_iff.2 hds0
      have hpl2 : ps.length < K * 2 := by
        refine pow9_len (n := n) ?_ hn
        have h1 := hpv.out
        have h2 : 1000000000 ^ ps.length * 1 ≤ 1000000000 ^ ps.length * gk := Nat.mul_le_mul_left _ (Nat.pos_of_ne_zero hk0)
        omega
      go_wp2_with fail
      refine (shortDivide_any _ g 0 cap 1000000000 ds' (by omega) (by omega) (by omega) (by omega) hrow' (fun i hi => hfr' i (by omega)) hd').mono ?_
      rintro e w2 ⟨ds2, r, rfl, hr2, hl2, hdg2, hrow2, hup2, hval2⟩
      have hown2 : w2.ownsRow w1.heap.size 224 1 (.slice ap ps.length kp) ps.length (ps.map encD) := by
        refine hown.kept (row := some g) ⟨hup2.os, hup2.tape, hup2.output, Nat.le_of_eq hup2.size.symm, fun k _ hne => hup2.block k (fun e => hne (by rw [e]))⟩ ?_
        right
        intro e
        have := hown.lt g e
        omega
      have hfr2 := hup2.free hfr'
      have hb2 : Below w.heap.size w w2 := hbel'.trans (hup2.below hg)
      have HS2 := hide (show w2.heap.size = wr.heap.size from hup2.size)
      clear hown hrow' hup2 hfr' hbel'
      go_wp2_with (at_builtin; refine wpList_append_own _ rfl _ _ 98 rfl w1.heap.size 224 i0 (.int .u32 0) 1 4 Tryz.underlying98 hi hz0 hz1 hz2 rfl (by decide) (.slice ap ps.length kp) ps.length (ps.map encD) rfl (hown2.alloc _) ⟨w2.heap.size, 0, none⟩ 1 1 [encD r] rfl rfl ?c1 ?c2 (by unfold maxLen; omega) (by omega) (by have := HS2.out; simp; omega) ?_)
      case c1 => exact cell_one_new _ _ _
      case c2 => intro u hu; simp at hu; subst hu; rfl
      intro v3 w3 hown3 hgrow hnn
      have hv3 : v3 ≠ .slice none 0 0 := fun e => hnn e
      have e2 : ps.map encD ++ [encD r] = (ps ++ [r]).map encD := by simp
      rw [e2] at hown3
      obtain ⟨g3, cap3, hvv, hn3, hg3, hgl3, _, _⟩ := owns_parts hown3 hv3
      subst hvv
      have hs2 := HS2.out
      have hgne : some g ≠ Value.ownBlock (.slice ap ps.length kp) := by
        intro e
        have := hown2.lt g e.symm
        omega
      have hblk : w3.heap[g]? = w2.heap[g]? := by
        rw [hgrow.block g (by simp; omega) hgne]
        exact Below.heap_alloc _ _ _ (by omega)
      have hrow3 : Row w3 g 0 ds2 := fun i hi => (World.cell?_of_block (w := w2) hblk).trans (hrow2 i hi)
      have hfr3 : Free w3 g 0 ds.length := fun i hi => (World.frozen?_of_block (w := w2) hblk).trans (hfr2 i hi)
      have hb3 : Below w.heap.size w w3 := (hb2.alloc hb2.size _).grown hgrow (by have := hb2.size; simp; omega) (fun k h => by have := hown2.lt k h; have := hbel.size; omega)
      have hsz3 := hgrow.size
      have hsz3' : w2.heap.size < w3.heap.size := by simp at hsz3; omega
      have hgl3' : g < w3.heap.size := by omega
      have hszz : w1.heap.size ≤ w3.heap.size := by omega
      have hlen3 : (ps ++ [r]).length = ps.length + 1 := by simp
      have hkd : gk / 1000000000 = val ds2 := by rw [← hv2, hval2, Nat.mul_add_div (by omega), Nat.div_eq_of_lt hr2, Nat.add_zero]
      have hkm : gk % 1000000000 = r := by rw [← hv2, hval2, Nat.mul_add_mod, Nat.mod_eq_of_lt hr2]
      have HKD := hide hkd
      have HKM := hide hkm
      clear hgrow hnn hown2 hrow2 hfr2 hb2 hs2 hsz3 hkd hkm hv2 hgne hblk
      go_wp2_with fail
      refine (trim_any w3 g 0 cap ds'.length ds2 (by omega) (by omega) (by omega) hrow3).mono ?_
      rintro e w4 ⟨rfl, rfl⟩
      have htl := trimL_le ds2 ds'.length
      have hlt4 : (ds2.take (trimL ds2 ds'.length)).length = trimL ds2 ds'.length := by rw [List.length_take]; omega
      have HLT4 := hide hlt4
      clear hlt4
      go_wp2
      go_roundg (gk / 1000000000)
      case measure => exact Nat.div_lt_self (Nat.pos_of_ne_zero hk0) (by omega)
      case rel =>
        rw [← hlen3] at hown3
        refine ⟨ds2.take (trimL ds2 ds'.length), ps ++ [r], _, cap3, by rw [hlen3], by rw [HLT4.out], by rw [HLT4.out]; omega, hrow3.take _, hfr3, hdg2.take _, top_trimL _ _ (by omega), ?_, hgl3', hszz, hown3, ?_, ?_, ?_, by omega, Or.inl (by simp), hb3⟩
        · rw [Hid, val_trimL _ _ (by omega), List.take_of_length_le (by omega), HKD.out]
        · intro p hp
          rcases List.mem_append.1 hp with h | h
          · exact hps p h
          · simp at h; omega
        · have h1 := hpv.out
          have h2 := Nat.div_add_mod gk 1000000000
          rw [Hid, pval_append, hlen3, Nat.pow_succ]
          simp only [pval, Nat.mul_zero, Nat.add_zero]
          rw [Nat.mul_assoc, ← HKM.out, Nat.add_assoc, ← Nat.mul_add, Nat.mod_add_div]
          exact h1
        · intro hz j hj
          have hjj : j = ps.length := by rw [hlen3] at hj; omega
          subst hjj
          have h2 := Nat.div_add_mod gk 1000000000
          rw [hz] at h2
          have h3 : r = gk := by rw [← HKM.out]; omega
          simp
          omega
end Go.Proofs.YtnhfdcfnojnofaaGreatDoor

/-
  What Over of package natural does, longDivide taken as given.
-/
namespace Go.Proofs.YtnhfdcfnojnofaaGreatDoor
open Go.RowKit

/-- What Over must do, up to numbers of K digits. -/
def OverOK (K : Nat) : Prop := ∀ (w : World) (u v : Value) (m n : Nat), NatV w u m → NatV w v n → m < 4294967296 ^ K → n < 4294967296 ^ K →
  Calls Tryz.prog 138 #[u, v] w fun e w' => ∃ x y, e = .returned (.tuple #[x, y]) ∧ NatV w' x (m / n) ∧ NatV w' y (m % n) ∧ Below w.heap.size w w'

/-- What longDivide must do, up to numbers of K digits. -/
def LongOK (K : Nat) : Prop := ∀ (w : World) (u v : Value) (m n : Nat), NatV w u m → NatV w v n → m < 4294967296 ^ K → n ≤ m → 4294967296 ^ 2 ≤ m → 4294967296 ≤ n →
  Calls Tryz.prog 226 #[u, v] w fun e w' => ∃ x y, e = .returned (.tuple #[x, y]) ∧ NatV w' x (m / n) ∧ NatV w' y (m % n) ∧ Below w.heap.size w w'

theorem longOK_two : LongOK 2 := fun w u v m n _ _ hm _ h2 _ => by omega

theorem Top.ge {ds : List Nat} (hd : Dig ds) {k : Nat} (hv : 4294967296 ^ k ≤ val ds) : k < ds.length := by
  rcases Nat.lt_or_ge k ds.length with h | h
  · exact h
  · have h1 := val_lt hd
    have h2 := pow_mono h
    omega

theorem of_int (w : World) (x : Int) (n : Nat) (hx : x = (n : Int)) (hn : n < 18446744073709551616) :
    Calls Tryz.prog 218 #[.int .u64 x] w fun e w' => ∃ v, e = .returned v ∧ NatV w' v n ∧ Below w.heap.size w w' := by
  subst hx
  exact of_any w n hn

set_option maxRecDepth 100000 in
set_option maxHeartbeats 1000000 in
theorem over_any (K : Nat) (hK : K ≤ 1073741823) (hL : LongOK K) : OverOK K := by
  intro w u v m n hu hv hm hn
  by_cases hn0 : n = 0
  · subst hn0
    go_enter Tryz.func138, Tryz.ntmps138
    go_wp2_with fail
    refine (isZero_yes _ _ hv).mono ?_
    rintro e w' ⟨rfl, rfl⟩
    go_wp2
    go_ret2
    exact ⟨_, _, rfl, by rw [Nat.div_zero]; exact NatV.zero _ _ _, by rw [Nat.mod_zero]; exact hu, Below.refl _ _⟩
  · by_cases hlt : m < n
    · go_enter Tryz.func138, Tryz.ntmps138
      go_wp2_with fail
      refine (isZero_no _ _ _ hv hn0).mono ?_
      rintro e w' ⟨rfl, rfl⟩
      go_wp2_with fail
      refine (compare_any w' u v m n K hu hv hm hn (by omega)).mono ?_
      rintro e w1 ⟨rfl, q, rfl⟩
      rw [cmpI_lt hlt]
      go_wp2
      go_ret2
      exact ⟨_, _, rfl, by rw [Nat.div_eq_of_lt hlt]; exact NatV.zero _ _ _, by rw [Nat.mod_eq_of_lt hlt]; exact hu.drewN q, below_toDrewN (Below.refl _ _)⟩
    · have hc0 : 0 ≤ cmpI m n := by
        rcases Nat.lt_or_ge n m with h | h
        · rw [cmpI_gt h]; omega
        · rw [cmpI_eq (by omega)]; omega
      by_cases h2 : m < 4294967296 ^ 2
      · obtain ⟨ds, hu1, hd, ht, hvu, hl⟩ := natV_u32 hu h2
        obtain ⟨ao, cap, rfl, hc, hr⟩ := hu1
        have hm64 : m < 18446744073709551616 := h2
        have hn64 : n < 18446744073709551616 := by omega
        clear hr
        go_enter Tryz.func138, Tryz.ntmps138
        go_wp2_with fail
        refine (isZero_no _ _ _ hv hn0).mono ?_
        rintro e w' ⟨rfl, rfl⟩
        go_wp2_with fail
        refine (compare_any w' _ v m n K hu hv hm hn (by omega)).mono ?_
        rintro e w1 ⟨rfl, q, rfl⟩
        generalize cmpI m n = cc at *
        go_wp2_with fail
        refine (low64_any _ _ m (hu.drewN q) hm64).mono ?_
        rintro e w1 ⟨rfl, rfl⟩
        go_wp2_with fail
        refine (low64_any _ _ n (hv.drewN q) hn64).mono ?_
        rintro e w1 ⟨rfl, rfl⟩
        go_wp2
        have hq1 : m / n < 18446744073709551616 := Nat.lt_of_le_of_lt (Nat.div_le_self _ _) hm64
        have hq2 : m % n < 18446744073709551616 := Nat.lt_of_le_of_lt (Nat.mod_le _ _) hm64
        have W1 : Hid (IntKind.u64.wrap ((m : Int) / (n : Int)) = ((m / n : Nat) : Int)) := by
          have e : ∀ n : Int, IntKind.u64.wrap n = n % 18446744073709551616 := fun n => by simp [IntKind.wrap, IntKind.signed, IntKind.bits]
          rw [Hid, e, ← Int.natCast_ediv]
          generalize m / n = q0 at hq1
          omega
        have W2 : Hid ((m : Int).tmod (n : Int) = ((m % n : Nat) : Int)) := by
          rw [Hid, Int.tmod_eq_emod_of_nonneg (by omega)]; simp
        go_region_with (first | (go_at_call_of 218 (IntKind.u64.wrap ((m : Int) / (n : Int))); refine (of_int _ _ (m / n) W1.out hq1).mono ?_; rintro e wA ⟨x, rfl, hx, hbx⟩) | (go_at_call_of 218 ((m : Int).tmod (n : Int)); refine (of_int _ _ (m % n) W2.out hq2).mono ?_; rintro e wB ⟨y, rfl, hy, hby⟩))
        go_wp2
        go_ret2
        exact ⟨_, _, rfl, hx.below hby, hy, below_ofDrewN (hbx.trans (hby.mono hbx.size))⟩
      · obtain ⟨ds, hu1, hd, ht, hvu, hl⟩ := natV_u32 hu hm
        obtain ⟨es, hv1, hd', ht', hvv, hl'⟩ := natV_u32 hv hn
        have hlen3 : 2 < ds.length := Top.ge hd (by omega)
        have hu2 := hu1
        obtain ⟨ao, cap, rfl, hc, hr⟩ := hu1
        have hv2 := hv1
        obtain ⟨ao', cap', rfl, hc', hr'⟩ := hv1
        by_cases h1 : es.length = 1
        · match es, h1 with
          | [d], _ =>
            simp only [val, Nat.mul_zero, Nat.add_zero] at hvv
            subst hvv
            obtain ⟨b, off, rfl, hb, hrow⟩ := hr' (by simp)
            have hd0 : w.cell? ⟨b, off, none⟩ = some (.int .u32 (d : Nat)) := by have := hrow 0 (by simp); simpa using this
            have hdl : d < 4294967296 := hd' d (by simp)
            clear hr hr' hrow
            go_enter Tryz.func138, Tryz.ntmps138
            go_wp2_with fail
            refine (isZero_no _ _ _ hv hn0).mono ?_
            rintro e w' ⟨rfl, rfl⟩
            go_wp2_with fail
            refine (compare_any w' _ _ m d K hu hv hm hn (by omega)).mono ?_
            rintro e w1 ⟨rfl, q, rfl⟩
            generalize cmpI m d = cc at *
            go_wp2_with fail
            refine (clone_any _ _ ds (hu2.drewN q) (by omega)).mono ?_
            rintro e w1 ⟨x, rfl, ⟨ao1, cap1, rfl, hc1, hr1⟩, hbel⟩
            obtain ⟨g, rfl, hg, hgl, hrow1, hfr1⟩ := hr1 (by intro e; simp [e] at hlen3)
            have hd1 : w1.cell? ⟨b, off, none⟩ = some (.int .u32 (d : Nat)) := (hbel.cell (p := ⟨b, off, none⟩) (by exact hb)).trans hd0
            go_wp2_with fail
            refine (shortDivide_any w1 g 0 cap1 d ds hc1 (by omega) (by omega) hdl hrow1 hfr1 hd).mono ?_
            rintro e w2 ⟨ds2, r, rfl, hr2, hl2, hdg2, hrow2, hup2, hval2⟩
            go_wp2_with fail
            refine (trim_any w2 g 0 cap1 ds.length ds2 hc1 (by omega) (by omega) hrow2).mono ?_
            rintro e w3 ⟨rfl, rfl⟩
            go_wp2_with fail
            refine (of_int _ _ r (by simp) (by omega)).mono ?_
            rintro e w4 ⟨y, rfl, hy, hby⟩
            go_wp2
            go_ret2
            have hq := natV_trim (n := ds.length) hrow2 hdg2 (by rw [hup2.size]; exact hgl) hl2 hc1
            have hdv : m / d = val ds2 := by rw [← hvu, hval2]; rw [Nat.mul_add_div (by omega), Nat.div_eq_of_lt hr2, Nat.add_zero]
            have hmd : m % d = r := by rw [← hvu, hval2]; rw [Nat.mul_add_mod, Nat.mod_eq_of_lt hr2]
            have hb23 : Below w'.heap.size w' w3 := below_ofDrewN (hbel.trans (hup2.below hg))
            exact ⟨_, _, rfl, by rw [hdv]; exact hq.below hby, by rw [hmd]; exact hy, hb23.trans (hby.mono hb23.size)⟩
        · have h1' : ((es.length : Int) == 1) = false := beq_eq_false_iff_ne.2 (by omega)
          have hnn : 4294967296 ≤ n := by
            have hne : 1 < es.length := by
              have : es.length ≠ 0 := fun e => hn0 (by rw [← hvv, List.length_eq_zero_iff.1 e]; rfl)
              omega
            obtain ⟨j, hj⟩ : ∃ j, es.length = j + 1 := ⟨es.length - 1, by omega⟩
            have h3 := ht'.le j hj
            have h4 := pow_mono (show 1 ≤ j by omega)
            omega
          clear hr hr'
          go_enter Tryz.func138, Tryz.ntmps138
          go_wp2_with fail
          refine (isZero_no _ _ _ hv hn0).mono ?_
          rintro e w' ⟨rfl, rfl⟩
          go_wp2_with fail
          refine (compare_any w' _ _ m n K hu hv hm hn (by omega)).mono ?_
          rintro e w1 ⟨rfl, q, rfl⟩
          generalize cmpI m n = cc at *
          go_wp2_with fail
          refine (hL _ _ _ m n (hu.drewN q) (hv.drewN q) hm (by omega) (by omega) hnn).mono ?_
          rintro e w2 ⟨x, y, rfl, hx, hy, hbel⟩
          go_wp2
          go_ret2
          exact ⟨_, _, rfl, hx, hy, below_ofDrewN hbel⟩
end Go.Proofs.YtnhfdcfnojnofaaGreatDoor

/-
  What CommonDivisor of package natural does.
-/
namespace Go.Proofs.YtnhfdcfnojnofaaGreatDoor
open Go.RowKit

set_option maxRecDepth 100000 in
set_option maxHeartbeats 1000000 in
theorem gcd_any (K : Nat) (hK : K ≤ 1073741823) (hO : OverOK K) (w : World) (u v : Value) (m n : Nat) (hu : NatV w u m) (hv : NatV w v n) (hm : m < 4294967296 ^ K) (hn : n < 4294967296 ^ K) :
    Calls Tryz.prog 136 #[u, v] w fun e w' => ∃ x, e = .returned x ∧ NatV w' x (Nat.gcd m n) ∧ Below w.heap.size w w' := by
  go_enter Tryz.func136, Tryz.ntmps136
  go_wp2
  go_loopg [0, 1] n (fun k s t wr => ∃ a, NatV wr s a ∧ NatV wr t k ∧ a < 4294967296 ^ K ∧ k < 4294967296 ^ K ∧ Hid (Nat.gcd a k = Nat.gcd m n) ∧ Below w.heap.size w wr)
  case atStart => exact ⟨m, hu, hv, hm, hn, rfl, Below.refl _ _⟩
  case round =>
    obtain ⟨a, hs, ht, ha, hk, hg, hbel⟩ := hrel
    obtain ⟨ds, hs1, hd, htop, hvs, hl⟩ := natV_u32 hs ha
    obtain ⟨es, ht1, hd', htop', hvt, hl'⟩ := natV_u32 ht hk
    have hs0 := hs
    have ht0 := ht
    obtain ⟨ao, cap, rfl, hc, hr⟩ := hs1
    obtain ⟨ao', cap', rfl, hc', hr'⟩ := ht1
    clear hr hr'
    by_cases hk0 : gk = 0
    · have hes : es = [] := htop'.zero.1 (by omega)
      subst hes
      subst hk0
      clear hvs hvt
      go_wp2
      go_ret
      refine ⟨_, rfl, ?_, hbel⟩
      rw [← hg.out, Nat.gcd_zero_right]
      exact hs0
    · have hpos : 0 < es.length := List.length_pos_iff.2 (fun e => hk0 (by rw [← hvt, e]; rfl))
      by_cases h2 : ds.length ≤ 2 ∧ es.length ≤ 2
      · obtain ⟨h2a, h2b⟩ := h2
        have ha64 : a < 18446744073709551616 := by
          have h3 := val_lt hd
          have h4 := pow_mono h2a
          rw [hvs] at h3
          exact Nat.lt_of_lt_of_le h3 h4
        have hk64 : gk < 18446744073709551616 := by
          have h3 := val_lt hd'
          have h4 := pow_mono h2b
          rw [hvt] at h3
          exact Nat.lt_of_lt_of_le h3 h4
        have hg64 : Nat.gcd a gk < 18446744073709551616 := Nat.lt_of_le_of_lt (Nat.gcd_le_right _ (by omega)) hk64
        clear hvs hvt
        go_wp2_with fail
        refine (low64_any _ _ a hs ha64).mono ?_
        rintro e w1 ⟨rfl, rfl⟩
        go_wp2_with fail
        refine (low64_any _ _ gk ht hk64).mono ?_
        rintro e w1 ⟨rfl, rfl⟩
        go_wp2_with fail
        refine (commonDivisor64_any _ a gk ha64 hk64).mono ?_
        rintro e w2 ⟨rfl, q, rfl⟩
        go_wp2_with fail
        refine (of_any _ _ hg64).mono ?_
        rintro e w2 ⟨x, rfl, hx, hbx⟩
        go_wp2
        go_ret
        refine ⟨_, rfl, ?_, hbel.trans ((below_ofDrewN hbx).mono hbel.size)⟩
        rw [← hg.out]
        exact hx
      · clear hvs hvt
        by_cases h2a : ds.length ≤ 2
        · have h2b : (2 : Int) < es.length := by omega
          go_wp2_with fail
          refine (hO _ _ _ a gk hs ht ha hk).mono ?_
          rintro e w2 ⟨x, y, rfl, hx, hy, hbx⟩
          go_wp2
          go_roundg (a % gk)
          case measure => exact Nat.mod_lt _ (by omega)
          case rel => exact ⟨gk, ht0.below hbx, hy, hk, Nat.lt_trans (Nat.mod_lt _ (by omega)) hk, by rw [Hid, ← hg.out, Nat.gcd_comm gk, ← Nat.gcd_rec, Nat.gcd_comm], hbel.trans (hbx.mono hbel.size)⟩
        · have h2b : (2 : Int) < ds.length := by omega
          go_wp2_with fail
          refine (hO _ _ _ a gk hs ht ha hk).mono ?_
          rintro e w2 ⟨x, y, rfl, hx, hy, hbx⟩
          go_wp2
          go_roundg (a % gk)
          case measure => exact Nat.mod_lt _ (by omega)
          case rel => exact ⟨gk, ht0.below hbx, hy, hk, Nat.lt_trans (Nat.mod_lt _ (by omega)) hk, by rw [Hid, ← hg.out, Nat.gcd_comm gk, ← Nat.gcd_rec, Nat.gcd_comm], hbel.trans (hbx.mono hbel.size)⟩
end Go.Proofs.YtnhfdcfnojnofaaGreatDoor

/-
  What package whole does.
-/
namespace Go.Proofs.YtnhfdcfnojnofaaGreatDoor
open Go.RowKit

theorem NatV.slice {w : World} {v : Value} {n : Nat} (h : NatV w v n) : ∃ ao l cap, v = .slice ao l cap := by
  obtain ⟨ds, ⟨ao, cap, hv, _⟩, _⟩ := h
  exact ⟨ao, _, cap, hv⟩

/-- A store into a cell that holds no digit leaves every natural alone. -/
theorem NatV.setCell {w : World} {v : Value} {n : Nat} (h : NatV w v n) {a : Addr} {y : Value} (hy : w.cell? a = some y) (hn : ∀ k, y ≠ .int .u32 k) (x : Value) : NatV (w.setCell a x) v n := by
  obtain ⟨ds, ⟨ao, cap, hv, hc, hr⟩, h2⟩ := h
  refine ⟨ds, ⟨ao, cap, hv, hc, fun hne => ?_⟩, h2⟩
  obtain ⟨b, off, ha, hb, hrow⟩ := hr hne
  refine ⟨b, off, ha, by simpa using hb, fun i hi => ?_⟩
  rw [World.cell?_setCell_other _ _ _ _ (by
    intro he
    have := hrow i hi
    rw [← he, hy, Option.some.injEq] at this
    exact hn _ this)]
  exact hrow i hi

/-- A struct value that stands for a whole number. -/
def WholeV (w : World) (x : Value) (z : Int) : Prop := ∃ b v, x = .agg #[.bool b, v] ∧ NatV w v z.natAbs ∧ Hid (b = decide (z < 0))

theorem WholeV.below {w w' : World} {x : Value} {z : Int} (h : WholeV w x z) (hb : Below w.heap.size w w') : WholeV w' x z := by
  obtain ⟨b, v, h1, h2, h3⟩ := h
  exact ⟨b, v, h1, h2.below hb, h3⟩

/-- The number of a sign and a size. -/
def sg (b : Bool) (n : Nat) : Int := if b then -(n : Int) else n

theorem sg_abs (b : Bool) (n : Nat) : (sg b n).natAbs = n := by cases b <;> simp [sg]
theorem sg_neg (b : Bool) (n : Nat) : decide (sg b n < 0) = (b && !(n == 0)) := by
  cases b
  · simp [sg]
  · by_cases h : n = 0
    · subst h; simp [sg]
    · have h1 : 0 < n := Nat.pos_of_ne_zero h
      have h2 : (n == 0) = false := beq_eq_false_iff_ne.2 h
      simp [sg, h1, h2]

theorem wholeV_sg {w : World} {b c : Bool} {v : Value} {n : Nat} (h : NatV w v n) (hc : c = (b && !(n == 0))) : WholeV w (.agg #[.bool c, v]) (sg b n) :=
  ⟨c, v, rfl, by rw [sg_abs]; exact h, by rw [Hid, sg_neg]; exact hc⟩

/-- A whole laid into a box of its own and read from there. -/
theorem wholeV_boxed {w : World} {g : Nat} {b0 b : Bool} {a0 : Option Addr} {l0 c0 : Nat} {v : Value} {z : Int} (hv : NatV w v z.natAbs) (hb : Hid (b = decide (z < 0))) (h0 : w.cell? ⟨g, 0, none⟩ = some (.bool b0)) (h1 : w.cell? ⟨g, 1, none⟩ = some (.slice a0 l0 c0)) :
    WholeV ((w.setCell ⟨g, 0, none⟩ (.bool b)).setCell ⟨g, 1, none⟩ v) (.agg #[.bool b, v]) z := by
  refine ⟨b, v, rfl, ?_, hb⟩
  refine (hv.setCell h0 (by simp) _).setCell (y := .slice a0 l0 c0) ?_ (by simp) _
  rw [World.cell?_setCell_other _ _ _ _ (by simp)]
  exact h1

theorem WholeV.setCell {w : World} {x : Value} {z : Int} (h : WholeV w x z) {a : Addr} {y : Value} (hy : w.cell? a = some y) (hn : ∀ k, y ≠ .int .u32 k) (u : Value) : WholeV (w.setCell a u) x z := by
  obtain ⟨b, v, h1, h2, h3⟩ := h
  exact ⟨b, v, h1, h2.setCell hy hn u, h3⟩

theorem WholeV.drewN {w : World} {x : Value} {z : Int} (h : WholeV w x z) (q : Nat) : WholeV (w.drewN q) x z := h
theorem WholeV.alloc {w : World} {x : Value} {z : Int} (h : WholeV w x z) (o : Obj) : WholeV (w.alloc o) x z := h.below ((Below.refl _ _).alloc (Nat.le_refl _) o)
theorem WholeV.parts {w : World} {x : Value} {z : Int} (h : WholeV w x z) : ∃ b ao l cap, x = .agg #[.bool b, .slice ao l cap] ∧ NatV w (.slice ao l cap) z.natAbs ∧ Hid (b = decide (z < 0)) := by
  obtain ⟨b, v, h1, h2, h3⟩ := h
  obtain ⟨ao, l, cap, rfl⟩ := h2.slice
  exact ⟨b, ao, l, cap, h1, h2, h3⟩

set_option maxRecDepth 100000 in
set_option maxHeartbeats 400000 in
theorem signed_any (w : World) (b : Bool) (v : Value) (n : Nat) (h : NatV w v n) :
    Calls Tryz.prog 129 #[.bool b, v] w fun e w' => ∃ x, e = .returned x ∧ WholeV w' x (sg b n) ∧ Below w.heap.size w w' := by
  obtain ⟨ao, l, cap, rfl⟩ := h.slice
  cases b with
  | false =>
    go_enter Tryz.func129, Tryz.ntmps129
    go_wp2
    exact bodyPost_ret (v := .agg #[.bool false, .slice ao l cap]) (by simp [results, Tryz.results129, go_sem]) rfl ⟨_, rfl, wholeV_sg (h.alloc _) rfl, (Below.refl _ _).alloc (Nat.le_refl _) _⟩
  | true =>
    by_cases h0 : n = 0
    · subst h0
      go_enter Tryz.func129, Tryz.ntmps129
      go_wp2_with fail
      refine (isZero_yes _ _ (h.alloc _)).mono ?_
      rintro e w' ⟨rfl, rfl⟩
      go_wp2
      exact bodyPost_ret (v := .agg #[.bool false, .slice ao l cap]) (by simp [results, Tryz.results129, go_sem]) rfl ⟨_, rfl, wholeV_sg (h.alloc _) rfl, (Below.refl _ _).alloc (Nat.le_refl _) _⟩
    · go_enter Tryz.func129, Tryz.ntmps129
      go_wp2_with fail
      refine (isZero_no _ _ n (h.alloc _) h0).mono ?_
      rintro e w' ⟨rfl, rfl⟩
      go_wp2
      exact bodyPost_ret (v := .agg #[.bool true, .slice ao l cap]) (by simp [results, Tryz.results129, go_sem]) rfl ⟨_, rfl, wholeV_sg (h.alloc _) (by simp [h0]), (Below.refl _ _).alloc (Nat.le_refl _) _⟩

set_option maxRecDepth 100000 in
set_option maxHeartbeats 400000 in
theorem ofNatural_any (w : World) (v : Value) (n : Nat) (h : NatV w v n) :
    Calls Tryz.prog 206 #[v] w fun e w' => ∃ x, e = .returned x ∧ WholeV w' x (n : Int) ∧ Below w.heap.size w w' := by
  go_enter Tryz.func206, Tryz.ntmps206
  go_wp2_with fail
  refine (signed_any _ _ _ n (h.alloc _)).mono ?_
  rintro e w' ⟨x, rfl, hx, hb⟩
  have hfin := hx
  rw [show sg false n = (n : Int) from rfl] at hx
  obtain ⟨b, ao, l, cap, rfl, hv', hbb⟩ := hx.parts
  obtain ⟨hc, hf⟩ := bcell hb
  have hz := hb.size
  have c0 : w'.cell? ⟨w.heap.size, 0, none⟩ = some (.bool false) := by rw [hc _ _ (by simp)]; simp
  have c1 : w'.cell? ⟨w.heap.size, 1, none⟩ = some (.slice none 0 0) := by rw [hc _ _ (by simp)]; simp
  have f0 : w'.frozen? ⟨w.heap.size, 0, none⟩ = false := by rw [hf _ _ (by simp)]; simp
  have f1 : w'.frozen? ⟨w.heap.size, 1, none⟩ = false := by rw [hf _ _ (by simp)]; simp
  clear hc hf
  go_wp2
  exact bodyPost_ret (v := .agg #[.bool b, .slice ao l cap]) (by simp [results, Tryz.results206, go_sem, c0, c1]) rfl ⟨_, rfl, wholeV_boxed hv' hbb c0 c1,
    ((((Below.refl _ _).alloc (Nat.le_refl _) _).trans (hb.mono (by simp))).setCell (Nat.le_refl _) _).setCell (Nat.le_refl _) _⟩
end Go.Proofs.YtnhfdcfnojnofaaGreatDoor

/-
  What package whole does: Size, Sign, Turned, Times, Plus.
-/
namespace Go.Proofs.YtnhfdcfnojnofaaGreatDoor
open Go.RowKit

theorem neg_of {z : Int} {b : Bool} (h : Hid (b = decide (z < 0))) : z = sg b z.natAbs := by
  have h1 := h.out
  subst h1
  by_cases hz : z < 0
  · simp [sg, hz]; omega
  · simp [sg, hz]; omega

theorem below2 (w : World) (A B : Obj) : Below w.heap.size w ((w.alloc A).alloc B) := ((Below.refl _ _).alloc (Nat.le_refl _) _).alloc (by simp) _
theorem below3 (w : World) (A B C : Obj) : Below w.heap.size w (((w.alloc A).alloc B).alloc C) := (below2 w A B).alloc (by simp; omega) _

theorem far {w : World} {g o h p : Nat} {x : Value} (hne : g ≠ h) : (w.setCell ⟨g, o, none⟩ x).cell? ⟨h, p, none⟩ = w.cell? ⟨h, p, none⟩ :=
  World.cell?_setCell_other _ _ _ _ (fun e => hne (by injection e))

/-- A box of two cells that may be written. -/
def Box2 (w : World) (g : Nat) (x y : Value) : Prop :=
  w.cell? ⟨g, 0, none⟩ = some x ∧ w.cell? ⟨g, 1, none⟩ = some y ∧ w.frozen? ⟨g, 0, none⟩ = false ∧ w.frozen? ⟨g, 1, none⟩ = false ∧ g < w.heap.size
theorem Box2.below {w w' : World} {g : Nat} {x y : Value} (h : Box2 w g x y) (hb : Below w.heap.size w w') : Box2 w' g x y := by
  obtain ⟨h1, h2, h3, h4, h5⟩ := h
  exact ⟨(hb.cell (p := ⟨g, 0, none⟩) h5).trans h1, (hb.cell (p := ⟨g, 1, none⟩) h5).trans h2, (hb.frozen (p := ⟨g, 0, none⟩) h5).trans h3, (hb.frozen (p := ⟨g, 1, none⟩) h5).trans h4, Nat.lt_of_lt_of_le h5 hb.size⟩
theorem Box2.new (w : World) (x y : Value) (t : TypeId) : Box2 (w.alloc (.cells #[x, y] t)) w.heap.size x y := by
  refine ⟨?_, ?_, ?_, ?_, ?_⟩ <;> simp
theorem Box2.alloc {w : World} {g : Nat} {x y : Value} (h : Box2 w g x y) (o : Obj) : Box2 (w.alloc o) g x y := h.below ((Below.refl _ _).alloc (Nat.le_refl _) o)
theorem Box2.drew {w : World} {g : Nat} {x y : Value} (h : Box2 w g x y) : Box2 w.drew g x y := h
theorem Box2.drewN {w : World} {g : Nat} {x y : Value} (h : Box2 w g x y) (q : Nat) : Box2 (w.drewN q) g x y := h

set_option maxRecDepth 100000 in
set_option maxHeartbeats 400000 in
theorem size_any (w : World) (x : Value) (z : Int) (h : WholeV w x z) :
    Calls Tryz.prog 135 #[x] w fun e w' => ∃ v, e = .returned v ∧ NatV w' v z.natAbs ∧ Below w.heap.size w w' := by
  obtain ⟨b, ao, l, cap, rfl, hv, hb⟩ := h.parts
  go_enter Tryz.func135, Tryz.ntmps135
  go_wp2
  go_ret
  exact ⟨_, rfl, hv.alloc _, (Below.refl _ _).alloc (Nat.le_refl _) _⟩

set_option maxRecDepth 100000 in
set_option maxHeartbeats 400000 in
theorem sign_any (w : World) (x : Value) (z : Int) (h : WholeV w x z) :
    Calls Tryz.prog 242 #[x] w fun e w' => e = .returned (.int .i64 z.sign) ∧ Below w.heap.size w w' := by
  obtain ⟨b, ao, l, cap, rfl, hv, hb⟩ := h.parts
  cases b with
  | true =>
    have hz : z < 0 := by have := hb.out; simpa using this
    go_enter Tryz.func242, Tryz.ntmps242
    go_wp2
    go_ret
    exact ⟨ret_int (by rw [Int.sign_eq_neg_one_of_neg hz]), (Below.refl _ _).alloc (Nat.le_refl _) _⟩
  | false =>
    have hz : ¬ z < 0 := by have := hb.out; simpa using this
    by_cases h0 : z.natAbs = 0
    · have hz0 : z = 0 := by omega
      subst hz0
      go_enter Tryz.func242, Tryz.ntmps242
      go_wp2_with fail
      refine (isZero_yes _ _ (hv.alloc _)).mono ?_
      rintro e w' ⟨rfl, rfl⟩
      go_wp2
      go_ret
      exact ⟨rfl, (Below.refl _ _).alloc (Nat.le_refl _) _⟩
    · have hz1 : 0 < z := by omega
      go_enter Tryz.func242, Tryz.ntmps242
      go_wp2_with fail
      refine (isZero_no _ _ _ (hv.alloc _) h0).mono ?_
      rintro e w' ⟨rfl, rfl⟩
      go_wp2
      go_ret
      exact ⟨ret_int (by rw [Int.sign_eq_one_of_pos hz1]), (Below.refl _ _).alloc (Nat.le_refl _) _⟩

set_option maxRecDepth 100000 in
set_option maxHeartbeats 400000 in
theorem wturned_any (w : World) (x : Value) (z : Int) (h : WholeV w x z) :
    Calls Tryz.prog 209 #[x] w fun e w' => ∃ y, e = .returned y ∧ WholeV w' y (-z) ∧ Below w.heap.size w w' := by
  obtain ⟨b, ao, l, cap, rfl, hv, hb⟩ := h.parts
  have hs : sg (!b) z.natAbs = -z := by
    rw [neg_of hb]
    cases b <;> simp [sg]
  go_enter Tryz.func209, Tryz.ntmps209
  go_wp2_with fail
  refine (signed_any _ _ _ z.natAbs ((hv.alloc _).alloc _)).mono ?_
  rintro e w' ⟨y, rfl, hy, hbel⟩
  rw [hs] at hy
  obtain ⟨b2, ao2, l2, cap2, rfl, hv2, hb2⟩ := hy.parts
  obtain ⟨hc, hf⟩ := bcell hbel
  have c0 : w'.cell? ⟨w.heap.size + 1, 0, none⟩ = some (.bool false) := by rw [hc _ _ (by simp)]; simp
  have c1 : w'.cell? ⟨w.heap.size + 1, 1, none⟩ = some (.slice none 0 0) := by rw [hc _ _ (by simp)]; simp
  clear hs
  go_wp2
  exact bodyPost_ret (v := .agg #[.bool b2, .slice ao2 l2 cap2]) (by simp [results, Tryz.results209, go_sem, c0, c1]) rfl ⟨_, rfl, wholeV_boxed hv2 hb2 c0 c1,
    (((below2 w _ _).trans (hbel.mono (below2 w _ _).size)).setCell (by simp) _).setCell (by simp) _⟩

set_option maxRecDepth 100000 in
set_option maxHeartbeats 1000000 in
theorem wplus_any (w : World) (x y : Value) (z t : Int) (K : Nat) (hK : K ≤ 1073741823) (h : WholeV w x z) (k : WholeV w y t) (hz : z.natAbs < 4294967296 ^ K) (ht : t.natAbs < 4294967296 ^ K) :
    Calls Tryz.prog 203 #[x, y] w fun e w' => ∃ s, e = .returned s ∧ WholeV w' s (z + t) ∧ Below w.heap.size w w' := by
  obtain ⟨b, ao, l, cap, rfl, hv, hb⟩ := h.parts
  obtain ⟨c, ao', l', cap', rfl, hv', hb'⟩ := k.parts
  have e1 := neg_of hb
  have e2 := neg_of hb'
  by_cases hbc : b = c
  · subst hbc
    have hs : sg b (z.natAbs + t.natAbs) = z + t := by
      cases b <;> simp [sg] at * <;> omega
    have HS := hide hs
    have hbb : (b == b) = true := by simp
    clear e1 e2 hs
    go_enter Tryz.func203, Tryz.ntmps203
    go_wp2
    have hbox : Box2 (((w.alloc (.cells #[.bool b, .slice ao l cap] 101)).alloc (.cells #[.bool b, .slice ao' l' cap'] 101)).alloc (.cells #[.bool false, .slice none 0 0] 101)) (w.heap.size + 1 + 1) (.bool false) (.slice none 0 0) := by
      have := Box2.new ((w.alloc (.cells #[.bool b, .slice ao l cap] 101)).alloc (.cells #[.bool b, .slice ao' l' cap'] 101)) (.bool false) (.slice none 0 0) 101
      simpa using this
    have hboxQ : Box2 (((w.alloc (.cells #[.bool b, .slice ao l cap] 101)).alloc (.cells #[.bool b, .slice ao' l' cap'] 101)).alloc (.cells #[.bool false, .slice none 0 0] 101)) (w.heap.size + 1) (.bool b) (.slice ao' l' cap') := by
      have := (Box2.new (w.alloc (.cells #[.bool b, .slice ao l cap] 101)) (.bool b) (.slice ao' l' cap') 101).alloc (.cells #[.bool false, .slice none 0 0] 101)
      simpa using this
    have hboxP : Box2 (((w.alloc (.cells #[.bool b, .slice ao l cap] 101)).alloc (.cells #[.bool b, .slice ao' l' cap'] 101)).alloc (.cells #[.bool false, .slice none 0 0] 101)) w.heap.size (.bool b) (.slice ao l cap) := ((Box2.new w _ _ _).alloc _).alloc _
    have hb3 := below3 w (.cells #[.bool b, .slice ao l cap] 101) (.cells #[.bool b, .slice ao' l' cap'] 101) (.cells #[.bool false, .slice none 0 0] 101)
    go_region_held (fun w' => w'.cell? ⟨w.heap.size, 0, none⟩ = some (.bool b) ∧ w'.cell? ⟨w.heap.size, 1, none⟩ = some (.slice ao l cap) ∧ w'.cell? ⟨w.heap.size + 1, 1, none⟩ = some (.slice ao' l' cap')) (first | (refine ⟨?_, ?_, ?_⟩ <;> (rw [far, far] <;> first | assumption | omega)) | go_keep) (first | (go_at_call 221; refine (plus_any _ _ _ z.natAbs t.natAbs K (by exact NatV.drew (((hv.alloc _).alloc _).alloc _)) (by exact NatV.drew (((hv'.alloc _).alloc _).alloc _)) hz ht hK).mono ?_; rintro e wA ⟨s, rfl, hs, hbs⟩; have hboxP2 := hboxP.drew.below hbs; obtain ⟨p0, p1, p2, p3, p4⟩ := hboxP2; have hboxQ2 := hboxQ.drew.below hbs; obtain ⟨q0, q1, q2, q3, q4⟩ := hboxQ2) | (go_at_call 129; refine (signed_any _ _ _ _ hs).mono ?_; rintro e wB ⟨r, rfl, hr, hbr⟩; rw [HS.out] at hr; obtain ⟨b2, ao2, l2, cap2, rfl, hv2, hb2⟩ := hr.parts; have hboxP3 := (hboxP.drew.below hbs).below hbr; obtain ⟨r0, r1, r2, r3, r4⟩ := hboxP3; have hboxQ3 := (hboxQ.drew.below hbs).below hbr; obtain ⟨t0, t1, t2, t3, t4⟩ := hboxQ3; have hbox2 := (hbox.drew.below hbs).below hbr; obtain ⟨c0, c1, f0, f1, g0⟩ := hbox2))
    have hbA : Below w.heap.size w wA := hb3.trans (Below.mono (w := ((w.alloc (.cells #[.bool b, .slice ao l cap] 101)).alloc (.cells #[.bool b, .slice ao' l' cap'] 101)).alloc (.cells #[.bool false, .slice none 0 0] 101)) ⟨hbs.os, hbs.tape, hbs.output, hbs.size, hbs.block⟩ hb3.size)
    have hbB : Below w.heap.size w wB := hbA.trans (hbr.mono hbA.size)
    go_wp2
    exact bodyPost_ret (v := .agg #[.bool b2, .slice ao2 l2 cap2]) (by simp [results, Tryz.results203, go_sem, c0, c1]) rfl ⟨_, rfl, wholeV_boxed hv2 hb2 c0 c1,
      (hbB.setCell (by simp; omega) _).setCell (by simp; omega) _⟩
  · have hbc2 : (b == c) = false := by simpa using hbc
    have hbox : Box2 (((w.alloc (.cells #[.bool b, .slice ao l cap] 101)).alloc (.cells #[.bool c, .slice ao' l' cap'] 101)).alloc (.cells #[.bool false, .slice none 0 0] 101)) (w.heap.size + 1 + 1) (.bool false) (.slice none 0 0) := by
      have := Box2.new ((w.alloc (.cells #[.bool b, .slice ao l cap] 101)).alloc (.cells #[.bool c, .slice ao' l' cap'] 101)) (.bool false) (.slice none 0 0) 101
      simpa using this
    have hb3 := below3 w (.cells #[.bool b, .slice ao l cap] 101) (.cells #[.bool c, .slice ao' l' cap'] 101) (.cells #[.bool false, .slice none 0 0] 101)
    by_cases hlt : z.natAbs < t.natAbs
    · have hs : sg c ((z.natAbs - t.natAbs) + (t.natAbs - z.natAbs)) = z + t := by
        cases b <;> cases c <;> simp [sg] at * <;> omega
      have HS := hide hs
      clear e1 e2 hs hbc
      go_enter Tryz.func203, Tryz.ntmps203
      go_wp2_with fail
      refine (compare_any _ _ _ z.natAbs t.natAbs K (((hv.alloc _).alloc _).alloc _) (((hv'.alloc _).alloc _).alloc _) hz ht (by omega)).mono ?_
      rintro e w1 ⟨rfl, q, rfl⟩
      rw [cmpI_lt hlt]
      go_wp2_with fail
      refine (apart_any _ _ _ z.natAbs t.natAbs K (by exact NatV.drewN (((hv.alloc _).alloc _).alloc _) q) (by exact NatV.drewN (((hv'.alloc _).alloc _).alloc _) q) hz ht hK).mono ?_
      rintro e wA ⟨s, rfl, hs, hbs⟩
      go_wp2_with fail
      refine (signed_any _ _ _ _ hs).mono ?_
      rintro e wB ⟨r, rfl, hr, hbr⟩
      rw [HS.out] at hr
      obtain ⟨b2, ao2, l2, cap2, rfl, hv2, hb2⟩ := hr.parts
      have hbox2 := ((hbox.drewN q).below hbs).below hbr
      have hbA : Below w.heap.size w wA := hb3.trans ((below_ofDrewN hbs).mono hb3.size)
      have hbB : Below w.heap.size w wB := hbA.trans (hbr.mono hbA.size)
      obtain ⟨c0, c1, f0, f1, g0⟩ := hbox2
      clear hbs hbr hbA hs hbox
      go_wp2
      exact bodyPost_ret (v := .agg #[.bool b2, .slice ao2 l2 cap2]) (by simp [results, Tryz.results203, go_sem, c0, c1]) rfl ⟨_, rfl, wholeV_boxed hv2 hb2 c0 c1,
        (hbB.setCell (by simp; omega) _).setCell (by simp; omega) _⟩
    · have hs : sg b ((z.natAbs - t.natAbs) + (t.natAbs - z.natAbs)) = z + t := by
        cases b <;> cases c <;> simp [sg] at * <;> omega
      have HS := hide hs
      have hc0 : 0 ≤ cmpI z.natAbs t.natAbs := by
        rcases Nat.lt_or_ge t.natAbs z.natAbs with h | h
        · rw [cmpI_gt h]; omega
        · rw [cmpI_eq (by omega)]; omega
      clear e1 e2 hs hbc
      go_enter Tryz.func203, Tryz.ntmps203
      go_wp2_with fail
      refine (compare_any _ _ _ z.natAbs t.natAbs K (((hv.alloc _).alloc _).alloc _) (((hv'.alloc _).alloc _).alloc _) hz ht (by omega)).mono ?_
      rintro e w1 ⟨rfl, q, rfl⟩
      generalize cmpI z.natAbs t.natAbs = cc at *
      go_wp2_with fail
      refine (apart_any _ _ _ z.natAbs t.natAbs K (by exact NatV.drewN (((hv.alloc _).alloc _).alloc _) q) (by exact NatV.drewN (((hv'.alloc _).alloc _).alloc _) q) hz ht hK).mono ?_
      rintro e wA ⟨s, rfl, hs, hbs⟩
      go_wp2_with fail
      refine (signed_any _ _ _ _ hs).mono ?_
      rintro e wB ⟨r, rfl, hr, hbr⟩
      rw [HS.out] at hr
      obtain ⟨b2, ao2, l2, cap2, rfl, hv2, hb2⟩ := hr.parts
      have hbox2 := ((hbox.drewN q).below hbs).below hbr
      have hbA : Below w.heap.size w wA := hb3.trans ((below_ofDrewN hbs).mono hb3.size)
      have hbB : Below w.heap.size w wB := hbA.trans (hbr.mono hbA.size)
      obtain ⟨c0, c1, f0, f1, g0⟩ := hbox2
      clear hbs hbr hbA hs hbox
      go_wp2
      exact bodyPost_ret (v := .agg #[.bool b2, .slice ao2 l2 cap2]) (by simp [results, Tryz.results203, go_sem, c0, c1]) rfl ⟨_, rfl, wholeV_boxed hv2 hb2 c0 c1,
        (hbB.setCell (by simp; omega) _).setCell (by simp; omega) _⟩
end Go.Proofs.YtnhfdcfnojnofaaGreatDoor
