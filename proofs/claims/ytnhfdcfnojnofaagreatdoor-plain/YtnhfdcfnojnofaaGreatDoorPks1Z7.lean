/-
  Part 7 of the texts ahead of Pks1: Txt5, Txt6, Txt7.
-/
import Derived.Test.YtnhfdcfnojnofaaGreatDoorPks1Z6
import Derived.Test.YtnhfdcfnojnofaaGreatDoorPks1Z3
import Derived.Lib.AppendIntMem
import Derived.Lib.ItoaMem
import Derived.Lib.Walk
import Derived.Shelf.Strings.BuilderK
set_option linter.unusedSimpArgs false
set_option linter.unusedVariables false
/-
  Numbers written: strconv.FormatUint at base 10.
-/
namespace Go.Proofs.YtnhfdcfnojnofaaGreatDoor
open Go.RowKit Go.Sort Go.Lib

set_option maxHeartbeats 1000000 in
set_option maxRecDepth 100000 in
theorem intFormatUint_any (u : Nat) (hu64 : u < 18446744073709551616) (w : World) (htab : Lib.TabIs Tryz.prog w "internal/strconv.uint64pow10" .u64 Lib.pow10Tab) :
    Calls Tryz.prog 227 #[.int .u64 (u : Nat), .int .i64 10] w fun e w' => e = .returned (.string ⟨(Lib.decDigits u).toArray⟩) ∧ Below w.heap.size w w' := by
  by_cases hs : u < 100
  · have hs2 : (u : Int) < 100 := by omega
    go_enter Tryz.func227, Tryz.ntmps227
    go_wp2_with fail
    refine (Tryz.internal_strconv_small u hs _).mono ?_
    rintro e w' ⟨rfl, rfl⟩
    go_wp2
    go_ret
    exact ⟨rfl, Below.refl _ _⟩
  · have hu1 : 1 ≤ u := by omega
    have hnd20 : Lib.nDigits u ≤ 20 := by have := Lib.numDigits_eq u hu1 hu64; split at this <;> omega
    have hs2 : (100 : Int) ≤ (u : Int) := by omega
    have hal : Tryz.prog.arrayLen 234 = 24 := by simp [Program.arrayLen, Tryz.underlying234]
    have hsl1 : ∀ W, (Instr.sliceAt 234 (.pointer (some ⟨w.heap.size, 0, none⟩)) none (some (.int .i64 (Lib.nDigits u : Int))) none).run Tryz.prog W = .ok (.slice (some ⟨w.heap.size, 0, none⟩) (Lib.nDigits u) 24) W := fun W => by
      rw [run_sliceAt_array_h W 234 ⟨w.heap.size, 0, none⟩ (by simp [Program.arrayLen, Program.elem, Tryz.underlying234]) .i64 (Lib.nDigits u : Int) (by omega) (by rw [hal]; omega)]
      go_simp
    have hH0 := Lib.holds_zero0 w 234 (Lib.nDigits u) (by omega)
    have hfmt := Tryz.internal_strconv_formatBase10 w.heap.size 0 24 u (Array.replicate (Lib.nDigits u) 0) (w.alloc (.cells Lib.zeros24 234)) hH0 (by rw [Array.size_replicate]; exact Lib.lt_pow_nDigits u) hu64 (by rw [Array.size_replicate]; omega)
    rw [Array.size_replicate] at hfmt
    have HH0 := hide hH0
    have HF0 := hide hfmt
    clear hH0 hal hfmt
    go_enter Tryz.func227, Tryz.ntmps227
    go_wp2_with fail
    refine (Tryz.internal_strconv_numDigits u hu1 hu64 _ (Lib.tabIs_alloc htab _)).mono ?_
    rintro e w' ⟨rfl, rfl⟩
    go_wp2_with fail
    refine HF0.out.mono ?_
    rintro e w' ⟨rfl, k, v', dk, rfl, hF⟩
    have hcv : (convert 78 9 (.slice (some ⟨w.heap.size, 0, none⟩) (Lib.nDigits u) 24)).run Tryz.prog ((putRow (fun (b : UInt8) => Value.int .u8 (b.toNat : Int)) (w.alloc (.cells Lib.zeros24 234)) w.heap.size 0 dk).drewN k) = .ok (.string ⟨(Lib.decDigits u).toArray⟩) ((putRow (fun (b : UInt8) => Value.int .u8 (b.toNat : Int)) (w.alloc (.cells Lib.zeros24 234)) w.heap.size 0 dk).drewN k) := by
      have h := run_convert_bytes_back (P := Tryz.prog) ((putRow (fun (b : UInt8) => Value.int .u8 (b.toNat : Int)) (w.alloc (.cells Lib.zeros24 234)) w.heap.size 0 dk).drewN k) 78 9 5 ⟨w.heap.size, 0, none⟩ 24 (Lib.decDigits u) Tryz.underlying78 Tryz.underlying5 Tryz.underlying9 (fun j hj => by
        rw [Lib.row_is_numeral hF j hj, Lib.add_plain, World.cell?_drewN]
        exact cell?_putRow (fun (b : UInt8) => Value.int .u8 (b.toNat : Int)) _ w.heap.size 0 _ dk HH0.out (by rw [hF.size, Array.size_replicate]) j (by rw [hF.size]; rw [Lib.decDigits_length] at hj; exact hj))
      rw [Lib.decDigits_length] at h
      exact h
    have hbel : Below w.heap.size w ((putRow (fun (b : UInt8) => Value.int .u8 (b.toNat : Int)) (w.alloc (.cells Lib.zeros24 234)) w.heap.size 0 dk).drewN k) := by
      have hb1 : Below w.heap.size w (w.alloc (.cells Lib.zeros24 234)) := (Below.refl _ _).alloc (Nat.le_refl _) _
      refine below_toDrewN (hb1.trans ⟨rfl, rfl, rfl, ?_, ?_⟩)
      · simp [putRow, mapBlock]
      · intro i hi
        simp only [putRow, mapBlock, Array.getElem?_modify]
        rw [if_neg (by omega)]
    clear htab HF0
    go_wp2
    go_ret
    exact ⟨rfl, hbel⟩

set_option maxHeartbeats 400000 in
set_option maxRecDepth 100000 in
theorem formatUint_any (u : Nat) (hu64 : u < 18446744073709551616) (w : World) (htab : Lib.TabIs Tryz.prog w "internal/strconv.uint64pow10" .u64 Lib.pow10Tab) :
    Calls Tryz.prog 141 #[.int .u64 (u : Nat), .int .i64 10] w fun e w' => e = .returned (.string ⟨(Lib.decDigits u).toArray⟩) ∧ Below w.heap.size w w' := by
  go_enter Tryz.func141, Tryz.ntmps141
  go_wp2_with fail
  refine (intFormatUint_any u hu64 _ htab).mono ?_
  rintro e w' ⟨rfl, hb⟩
  go_wp2
  go_ret
  exact ⟨rfl, hb⟩
end Go.Proofs.YtnhfdcfnojnofaaGreatDoor

/-
  Numbers written: strings.Builder's WriteString.
-/
namespace Go.Proofs.YtnhfdcfnojnofaaGreatDoor
open Go.RowKit

theorem Tryz.sizeBuilder : (Tryz.prog.info? 140).map (·.size) = some 2 := by kernel_rfl
theorem Tryz.info5 : (Tryz.prog.info? 5).map (fun i => (i.zero, i.size, i.bytes)) = some (some (.int .u8 0), 1, 1) := by kernel_rfl
theorem Tryz.liesBuilder : Go.liesAt Tryz.prog Tryz.prog.depth 140 (2 / Tryz.prog.cellsOf 140) 0 140 1 = true := by kernel_rfl

set_option maxHeartbeats 1000000 in
set_option maxRecDepth 100000 in
theorem copyCheck_used (b : Nat) (w : World) (h0 : w.cell? ⟨b, 0, none⟩ = some (.pointer (some ⟨b, 0, none⟩))) :
    Calls Tryz.prog 153 #[.pointer (some ⟨b, 0, none⟩)] w fun e w' => e = .returned (.tuple #[]) ∧ w' = w := by
  obtain ⟨j, hj, hjs⟩ := Option.map_eq_some_iff.1 Tryz.sizeBuilder
  go_enter Tryz.func153, Tryz.ntmps153
  go_wp2
  rw [Lib.run_neq_ptr_same w _ Tryz.underlying138 hj]
  go_wp2
  go_end0
  exact ⟨rfl, rfl⟩

set_option maxHeartbeats 1000000 in
set_option maxRecDepth 100000 in
theorem copyCheck_fresh (b : Nat) (w : World) (h0 : w.cell? ⟨b, 0, none⟩ = some (.pointer none)) (hsh : w.shape? b = some (140, 2)) (hfz : w.frozen? ⟨b, 0, none⟩ = false) :
    Calls Tryz.prog 153 #[.pointer (some ⟨b, 0, none⟩)] w fun e w' => e = .returned (.tuple #[]) ∧ w' = w.setCell ⟨b, 0, none⟩ (.pointer (some ⟨b, 0, none⟩)) := by
  obtain ⟨j, hj, hjs⟩ := Option.map_eq_some_iff.1 Tryz.sizeBuilder
  go_enter Tryz.func153, Tryz.ntmps153
  go_wp2
  rw [Lib.run_to_unsafe w ⟨b, 0, none⟩ Tryz.underlying138 Tryz.underlying344 hj (by rw [hjs]; decide) hsh (Nat.zero_lt_succ 1)]
  simp only [Result.andThen]
  rw [Oper.upon_value]
  go_wp2
  rw [run_callFunc_extern Tryz.func243 (by kernel_rfl) (by kernel_rfl) (by kernel_rfl) (e := Extern.AbiNoEscape.same) (by kernel_rfl)]
  rw [Lib.run_noEscape]
  simp only [Result.andThen]
  rw [Oper.upon_value]
  go_wp2
  rw [Lib.run_from_unsafe w ⟨b, 0, none⟩ Tryz.underlying344 Tryz.underlying138 hj hsh Tryz.liesBuilder]
  simp only [Result.andThen]
  rw [Oper.upon_value]
  go_wp2
  go_end0
  exact ⟨rfl, rfl⟩

theorem copyCheck_k (B b : Nat) (bs : List Value) (w : World) (h : Lib.IsBuilderF 140 5 B b bs w) :
    Calls Tryz.prog 153 #[.pointer (some ⟨b, 0, none⟩)] w fun e w' => e = .returned (.tuple #[]) ∧ (Lib.BuilderAtF 140 5 B b (.pointer (some ⟨b, 0, none⟩)) bs w' ∧ Below B w w' ∧ Lib.OthersKept 5 (some b) w w') := by
  rcases h with h | h
  · refine (copyCheck_fresh b w h.cell0 h.shape h.frozen0).mono ?_
    rintro e w' ⟨rfl, rfl⟩
    exact ⟨rfl, h.used _, (Below.refl B w).setCell (p := ⟨b, 0, none⟩) h.1 _, (Lib.OthersKept.refl _ _ w).setCell ⟨b, 0, none⟩ rfl _⟩
  · refine (copyCheck_used b w h.cell0).mono ?_
    rintro e w' ⟨rfl, rfl⟩
    exact ⟨rfl, h, Below.refl B _, Lib.OthersKept.refl _ _ _⟩

set_option maxHeartbeats 1000000 in
set_option maxRecDepth 100000 in
theorem writeString_k (B b : Nat) (bs : List Value) (s : ByteArray) (w : World) (h : Lib.IsBuilderF 140 5 B b bs w) (hlen : bs.length + s.size ≤ 140737488355328) (hBw : B ≤ w.heap.size) :
    Calls Tryz.prog 85 #[.pointer (some ⟨b, 0, none⟩), .string s] w fun e w' => e = .returned (.tuple #[.int .i64 s.size, .nilIface]) ∧ (Lib.BuilderAtF 140 5 B b (.pointer (some ⟨b, 0, none⟩)) (bs ++ Lib.strCells s) w' ∧ Below B w w' ∧ Lib.OthersKept 5 (some b) w w') := by
  obtain ⟨i0, hi, hz0, hz1, hz2⟩ := info_parts Tryz.info5
  go_enter Tryz.func85, Tryz.ntmps85
  go_wp2_with fail
  refine (copyCheck_k B b bs _ h).mono ?_
  rintro e w1 ⟨rfl, h1, hb1, hk1⟩
  obtain ⟨hB, v, hbk, hown, hne⟩ := h1
  have c0 : w1.cell? ⟨b, 0, none⟩ = some (.pointer (some ⟨b, 0, none⟩)) := by rw [Lib.cell_of_heap hbk]; rfl
  have c1 : w1.cell? ⟨b, 1, none⟩ = some v := by rw [Lib.cell_of_heap hbk]; rfl
  go_wp2_with (at_builtin; refine Lib.wpList_append_own_stringF _ rfl _ _ 78 9 rfl B 5 i0 Tryz.underlying78 Tryz.underlying9 hi hz0 hz1 hz2 _ _ _ rfl hown s rfl ?c3 ?c4 ?c5 ?_)
  case c3 => unfold maxLen; omega
  case c4 => omega
  case c5 => have := hb1.size; omega
  intro v' w2 hown' hgrow _
  have hlt : b < w1.heap.size := by
    rcases Nat.lt_or_ge b w1.heap.size with h' | h'
    · exact h'
    · simp [Array.getElem?_eq_none h'] at hbk
  have hb2 : w2.heap[b]? = some (.cells #[.pointer (some ⟨b, 0, none⟩), v] 140 (0, 0)) := by
    rw [hgrow.block b hlt (fun e => hne e.symm)]
    exact hbk
  have d0 : w2.cell? ⟨b, 0, none⟩ = some (.pointer (some ⟨b, 0, none⟩)) := by rw [Lib.cell_of_heap hb2]; rfl
  have d1 : w2.cell? ⟨b, 1, none⟩ = some v := by rw [Lib.cell_of_heap hb2]; rfl
  have f1 : w2.frozen? ⟨b, 1, none⟩ = false := Lib.frozen_of_heap hb2 1
  obtain ⟨ao, n', cap, rfl⟩ : ∃ ao n' cap, v' = .slice ao n' cap := by
    rcases hown'.2 with ⟨hv, _⟩ | ⟨g, cap, cur, fz, hv, _⟩
    · exact ⟨_, _, _, hv⟩
    · exact ⟨_, _, _, hv⟩
  go_wp2
  go_ret2
  refine ⟨rfl, ?_, ?_, (hk1.grown hgrow (Lib.ownsRowF_kind hown)).setCell ⟨b, 1, none⟩ rfl _⟩
  · exact Lib.BuilderAtF.put (T := 140) (e := 5) hB hb2 (bs' := bs ++ Lib.strCells s) (by simpa [Lib.strCells_length] using hown') (by decide)
  · exact (hb1.grown hgrow (by have := hb1.size; omega) (fun k hk => (hown.lt k hk).1)).setCell (p := ⟨b, 1, none⟩) hB _
end Go.Proofs.YtnhfdcfnojnofaaGreatDoor

/-
  Numbers written: pieces.
-/
namespace Go.Proofs.YtnhfdcfnojnofaaGreatDoor
open Go.RowKit

/-- The number that pieces of nine decimal digits are, the least first. -/
def pval : List Nat → Nat
  | [] => 0
  | d :: ds => d + 1000000000 * pval ds

theorem pval_append (a b : List Nat) : pval (a ++ b) = pval a + 1000000000 ^ a.length * pval b := by
  induction a with
  | nil => simp [pval]
  | cons d ds ih =>
    simp only [List.cons_append, pval, List.length_cons, ih, Nat.pow_succ, Nat.mul_add]
    rw [Nat.mul_comm (1000000000 ^ ds.length) 1000000000, Nat.mul_assoc]
    omega

theorem pow9_len {L K n : Nat} (h1 : 1000000000 ^ L ≤ n) (h2 : n < 4294967296 ^ K) : L < K * 2 := by
  rcases Nat.lt_or_ge L (K * 2) with h | h
  · exact h
  · exfalso
    have e1 : 1000000000 ^ (K * 2) ≤ 1000000000 ^ L := Nat.pow_le_pow_right (by omega) h
    have e2 : (1000000000 : Nat) ^ (K * 2) = (1000000000 ^ 2) ^ K := by rw [Nat.mul_comm, Nat.pow_mul]
    have e3 : (4294967296 : Nat) ^ K ≤ (1000000000 ^ 2) ^ K := Nat.pow_le_pow_left (by decide) K
    omega

set_option maxHeartbeats 2000000 in
set_option maxRecDepth 100000 in
theorem pieces_any (w : World) (v : Value) (n K : Nat) (hv : NatV w v n) (hn0 : n ≠ 0) (hn : n < 4294967296 ^ K) (hK : K ≤ 100000000) :
    Calls Tryz.prog 140 #[v] w fun e w' => ∃ x ps, e = .returned x ∧ U32s w' x ps ∧ (∀ p ∈ ps, p < 1000000000) ∧ pval ps = n ∧ (∀ k, ps.length = k + 1 → ps.getD k 0 ≠ 0) ∧ ps.length ≤ K * 2 ∧ Below w.heap.size w w' := by
  obtain ⟨ds, hu, hd, ht, hvd, hl⟩ := natV_u32 hv hn
  obtain ⟨i0, hi, hz0, hz1, hz2⟩ := info_parts Tryz.info131
  have hds : ds ≠ [] := fun e => hn0 (by rw [← hvd, e]; rfl)
  go_enter Tryz.func140, Tryz.ntmps140
  go_wp2_with fail
  refine (clone_any _ _ ds hu (by omega)).mono ?_
  rintro e w1 ⟨x, rfl, ⟨ao, cap, rfl, hc, hr⟩, hbel⟩
  obtain ⟨g, rfl, hg, hgl, hrow, hfr⟩ := hr hds
  clear hr
  go_wp2
  go_loopg [3, 4] n (fun k pv lv wr => ∃ (ds' ps : List Nat) (ap : Option Addr) (kp : Nat), pv = .slice ap ps.length kp ∧ lv = .slice (some ⟨g, 0, none⟩) ds'.length cap ∧ ds'.length ≤ ds.length ∧ Row wr g 0 ds' ∧ Free wr g 0 ds.length ∧ Dig ds' ∧ Top ds' ∧ Hid (val ds' = k) ∧ g < wr.heap.size ∧ w1.heap.size ≤ wr.heap.size ∧ wr.ownsRow w1.heap.size 224 1 (.slice ap ps.length kp) ps.length (ps.map encD) ∧
      (∀ p ∈ ps, p < 1000000000) ∧ Hid (pval ps + 1000000000 ^ ps.length * k = n) ∧ Hid (k = 0 → ∀ j, ps.length = j + 1 → ps.getD j 0 ≠ 0) ∧ ps.length ≤ K * 2 ∧ Hid (ps ≠ [] ∨ k = n) ∧ Below w.heap.size w wr)
  case atStart => exact ⟨ds, [], none, 0, rfl, rfl, Nat.le_refl _, hrow, hfr, hd, ht, hvd, hgl, Nat.le_refl _, World.ownsRow_nil _ _ _ _, fun p hp => by simp at hp, by simp [Hid, pval], fun h => absurd h hn0, Nat.zero_le _, Or.inr rfl, hbel⟩
  case round =>
    obtain ⟨ds', ps, ap, kp, rfl, rfl, hdl, hrow', hfr', hd', ht', hv', hgl', hsz', hown, hps, hpv, hlast, hpl, hne, hbel'⟩ := hrel
    by_cases hk0 : gk = 0
    · have hds0 : ds' = [] := ht'.zero.1 (by rw [hv'.out]; exact hk0)
      subst hds0
      have HK := hide hk0
      clear hk0
      go_wp2
      go_ret
      have hpv2 := hpv.out
      rw [HK.out, Nat.mul_zero, Nat.add_zero] at hpv2
      have hpne : ps ≠ [] := by
        rcases hne.out with h | h
        · exact h
        · exact absurd (HK.out.symm.trans h).symm hn0
      refine ⟨_, ps, rfl, ?_, hps, hpv2, hlast.out HK.out, hpl, hbel'⟩
      have hvn : Value.slice ap ps.length kp ≠ .slice none 0 0 := by
        intro e
        simp only [Value.slice.injEq] at e
        exact hpne (List.length_eq_zero_iff.1 e.2.1)
      obtain ⟨g2, cap2, hvv, hn2, _, hg2, hrow2, _⟩ := owns_parts hown hvn
      simp only [Value.slice.injEq] at hvv
      obtain ⟨rfl, _, rfl⟩ := hvv
      exact ⟨_, _, rfl, hn2, fun _ => ⟨g2, 0, rfl, hg2, hrow2⟩⟩
    · have hv2 := hv'.out
      have hds0 : ds' ≠ [] := fun e => hk0 (by rw [← hv2, e]; rfl)
      have hdp : 0 < ds'.length := List.length_pos_iff.2 hds0
      have hpl2 : ps.length < K * 2 := by
        refine pow9_len (n := n) ?_ hn
        have h1 := hpv.out
        have h2 : 1000000000 ^ ps.length * 1 ≤ 1000000000 ^ ps.length * gk := Nat.mul_le_mul_left _ (Nat.pos_of_ne_zero hk0)
        omega
      go_wp2_with fail
      refine (shortDivide_any _ g 0 cap 1000000000 ds' (by omega) (by omega) (by omega) (by omega) hrow' (fun i hi => hfr' i (by omega)) hd').mono ?_
      rintro e w2 ⟨ds2, r, rfl, hr2, hl2, hdg2, hrow2, hup2, hval2⟩
      have hown2 : w2.ownsRow w1.heap.size 224 1 (.slice ap ps.length kp) ps.length (ps.map encD) := by
        refine hown.kept (row := some g) ⟨hup2.os, hup2.tape, hup2.output, Nat.le_of_eq hup2.size.symm, fun k _ hne => hup2.block k (fun e => hne (by rw [e]))⟩ ?_
        right
        intro e
        have := hown.lt g e
        omega
      have hfr2 := hup2.free hfr'
      have hb2 : Below w.heap.size w w2 := hbel'.trans (hup2.below hg)
      have HS2 := hide (show w2.heap.size = wr.heap.size from hup2.size)
      clear hown hrow' hup2 hfr' hbel'
      go_wp2_with (at_builtin; refine wpList_append_own _ rfl _ _ 98 rfl w1.heap.size 224 i0 (.int .u32 0) 1 4 Tryz.underlying98 hi hz0 hz1 hz2 rfl (by decide) (.slice ap ps.length kp) ps.length (ps.map encD) rfl (hown2.alloc _) ⟨w2.heap.size, 0, none⟩ 1 1 [encD r] rfl rfl ?c1 ?c2 (by unfold maxLen; omega) (by omega) (by have := HS2.out; simp; omega) ?_)
      case c1 => exact cell_one_new _ _ _
      case c2 => intro u hu; simp at hu; subst hu; rfl
      intro v3 w3 hown3 hgrow hnn
      have hv3 : v3 ≠ .slice none 0 0 := fun e => hnn e
      have e2 : ps.map encD ++ [encD r] = (ps ++ [r]).map encD := by simp
      rw [e2] at hown3
      obtain ⟨g3, cap3, hvv, hn3, hg3, hgl3, _, _⟩ := owns_parts hown3 hv3
      subst hvv
      have hs2 := HS2.out
      have hgne : some g ≠ Value.ownBlock (.slice ap ps.length kp) := by
        intro e
        have := hown2.lt g e.symm
        omega
      have hblk : w3.heap[g]? = w2.heap[g]? := by
        rw [hgrow.block g (by simp; omega) hgne]
        exact Below.heap_alloc _ _ _ (by omega)
      have hrow3 : Row w3 g 0 ds2 := fun i hi => (World.cell?_of_block (w := w2) hblk).trans (hrow2 i hi)
      have hfr3 : Free w3 g 0 ds.length := fun i hi => (World.frozen?_of_block (w := w2) hblk).trans (hfr2 i hi)
      have hb3 : Below w.heap.size w w3 := (hb2.alloc hb2.size _).grown hgrow (by have := hb2.size; simp; omega) (fun k h => by have := hown2.lt k h; have := hbel.size; omega)
      have hsz3 := hgrow.size
      have hsz3' : w2.heap.size < w3.heap.size := by simp at hsz3; omega
      have hgl3' : g < w3.heap.size := by omega
      have hszz : w1.heap.size ≤ w3.heap.size := by omega
      have hlen3 : (ps ++ [r]).length = ps.length + 1 := by simp
      have hkd : gk / 1000000000 = val ds2 := by rw [← hv2, hval2, Nat.mul_add_div (by omega), Nat.div_eq_of_lt hr2, Nat.add_zero]
      have hkm : gk % 1000000000 = r := by rw [← hv2, hval2, Nat.mul_add_mod, Nat.mod_eq_of_lt hr2]
      have HKD := hide hkd
      have HKM := hide hkm
      clear hgrow hnn hown2 hrow2 hfr2 hb2 hs2 hsz3 hkd hkm hv2 hgne hblk
      go_wp2_with fail
      refine (trim_any w3 g 0 cap ds'.length ds2 (by omega) (by omega) (by omega) hrow3).mono ?_
      rintro e w4 ⟨rfl, rfl⟩
      have htl := trimL_le ds2 ds'.length
      have hlt4 : (ds2.take (trimL ds2 ds'.length)).length = trimL ds2 ds'.length := by rw [List.length_take]; omega
      have HLT4 := hide hlt4
      clear hlt4
      go_wp2
      go_roundg (gk / 1000000000)
      case measure => exact Nat.div_lt_self (Nat.pos_of_ne_zero hk0) (by omega)
      case rel =>
        rw [← hlen3] at hown3
        refine ⟨ds2.take (trimL ds2 ds'.length), ps ++ [r], _, cap3, by rw [hlen3], by rw [HLT4.out], by rw [HLT4.out]; omega, hrow3.take _, hfr3, hdg2.take _, top_trimL _ _ (by omega), ?_, hgl3', hszz, hown3, ?_, ?_, ?_, by omega, Or.inl (by simp), hb3⟩
        · rw [Hid, val_trimL _ _ (by omega), List.take_of_length_le (by omega), HKD.out]
        · intro p hp
          rcases List.mem_append.1 hp with h | h
          · exact hps p h
          · simp at h; omega
        · have h1 := hpv.out
          have h2 := Nat.div_add_mod gk 1000000000
          rw [Hid, pval_append, hlen3, Nat.pow_succ]
          simp only [pval, Nat.mul_zero, Nat.add_zero]
          rw [Nat.mul_assoc, ← HKM.out, Nat.add_assoc, ← Nat.mul_add, Nat.mod_add_div]
          exact h1
        · intro hz j hj
          have hjj : j = ps.length := by rw [hlen3] at hj; omega
          subst hjj
          have h2 := Nat.div_add_mod gk 1000000000
          rw [hz] at h2
          have h3 : r = gk := by rw [← HKM.out]; omega
          simp
          omega
end Go.Proofs.YtnhfdcfnojnofaaGreatDoor
