/-
  Part 3 of the texts ahead of Pks1: Nat7, Nat8, Nat9, Nat10, Who1, Who2, Who3.
-/
import Derived.Test.YtnhfdcfnojnofaaGreatDoorPks1Z2
import Derived.Deep.RegionWith
import Derived.Deep.LoopGhost
import Derived.Deep.RegionHeld
set_option linter.unusedSimpArgs false
set_option linter.unusedVariables false
/-
  What slices.Clone, Plus and Apart of package natural do.
-/
namespace Go.Proofs.YtnhfdcfnojnofaaGreatDoor
open Go.RowKit

/-- What a clone is: a row of its own that reads alike, and may be written. -/
def OwnU (w w' : World) (v : Value) (ds : List Nat) : Prop :=
  ∃ ao cap, v = .slice ao ds.length cap ∧ ds.length ≤ cap ∧ (ds ≠ [] → ∃ g, ao = some ⟨g, 0, none⟩ ∧ w.heap.size ≤ g ∧ g < w'.heap.size ∧ Row w' g 0 ds ∧ Free w' g 0 ds.length)

set_option maxRecDepth 100000 in
set_option maxHeartbeats 1000000 in
theorem clone_any (w : World) (v : Value) (ds : List Nat) (hv : U32s w v ds) (hlen : ds.length ≤ 1073741824) :
    Calls Tryz.prog 223 #[v] w fun e w' => ∃ x, e = .returned x ∧ OwnU w w' x ds ∧ Below w.heap.size w w' := by
  obtain ⟨ao, cap, rfl, hc, hr⟩ := hv
  have hnil := fun w => Lib.run_eql_slice_nil (P := Tryz.prog) w 99 224 ao ds.length cap 0 0 Tryz.underlying99
  by_cases h0 : ds = []
  · subst h0
    cases ao with
    | none =>
      clear hr hnil
      have hnil := fun w => Lib.run_eql_slice_nil (P := Tryz.prog) w 99 224 none 0 cap 0 0 Tryz.underlying99
      go_enter Tryz.func223, Tryz.ntmps223
      go_wp2
      go_ret
      exact ⟨_, rfl, ⟨none, 0, rfl, Nat.le_refl _, fun h => absurd rfl h⟩, Below.refl _ _⟩
    | some a =>
      clear hr hnil
      have hnil := fun w => Lib.run_eql_slice_nil (P := Tryz.prog) w 99 224 (some a) 0 cap 0 0 Tryz.underlying99
      obtain ⟨i0, hi, hz0, hz1, hz2⟩ := info_parts Tryz.info131
      go_enter Tryz.func223, Tryz.ntmps223
      go_wp2_with (at_builtin; refine wpList_append_own _ rfl _ _ 99 rfl w.heap.size 224 i0 (.int .u32 0) 1 4 Tryz.underlying99 hi hz0 hz1 hz2 rfl (by decide) (.slice (some ⟨w.heap.size, 0, none⟩) 0 0) 0 [] rfl (World.ownsRow_lit w #[] 0 (Nat.le_refl _) (by unfold maxLen; omega) rfl) a 0 cap [] rfl rfl (by simp) (by simp) (by unfold maxLen; omega) (by omega) (by simp) ?_; intro v1 w1 hown hgrow hnn)
      go_ret
      have hv1 : v1 ≠ .slice none 0 0 := fun e => by have := hnn.1 e; simp at this
      obtain ⟨g, cap1, hv, h1, h2, h3, h4, h5⟩ := owns_parts (ds := []) hown hv1
      exact ⟨_, rfl, ⟨_, cap1, hv, by simp, fun h => absurd rfl h⟩, ((Below.refl _ _).alloc (Nat.le_refl _) _).grown hgrow (by simp) (fun k h => by simp [Value.ownBlock] at h; omega)⟩
  · obtain ⟨b, off, rfl, hb, hrow⟩ := hr h0
    obtain ⟨i0, hi, hz0, hz1, hz2⟩ := info_parts Tryz.info131
    have hrow1 : Row (w.alloc (Obj.cells #[] 224)) b off ds := hrow.below ((Below.refl _ _).alloc (Nat.le_refl _) _) hb
    go_enter Tryz.func223, Tryz.ntmps223
    go_wp2_with (at_builtin; refine wpList_append_own _ rfl _ _ 99 rfl w.heap.size 224 i0 (.int .u32 0) 1 4 Tryz.underlying99 hi hz0 hz1 hz2 rfl (by decide) (.slice (some ⟨w.heap.size, 0, none⟩) 0 0) 0 [] rfl (World.ownsRow_lit w #[] 0 (Nat.le_refl _) (by unfold maxLen; omega) rfl) ⟨b, off, none⟩ ds.length cap (ds.map encD) rfl (by simp) (row_news hrow1) (encD_one ds) (by unfold maxLen; omega) (by omega) (by simp) ?_; intro v1 w1 hown hgrow hnn)
    go_ret
    have hv1 : v1 ≠ .slice none 0 0 := fun e => by have := hnn.1 e; simp at this
    rw [List.nil_append] at hown
    obtain ⟨g, cap1, hv, h1, h2, h3, h4, h5⟩ := owns_parts hown hv1
    rw [Nat.zero_add] at hv h1
    exact ⟨_, rfl, ⟨_, cap1, hv, h1, fun _ => ⟨g, rfl, h2, h3, h4, h5 _⟩⟩, ((Below.refl _ _).alloc (Nat.le_refl _) _).grown hgrow (by simp) (fun k h => by simp [Value.ownBlock] at h; omega)⟩
end Go.Proofs.YtnhfdcfnojnofaaGreatDoor

/-
  What Plus and Apart of package natural do.
-/
namespace Go.Proofs.YtnhfdcfnojnofaaGreatDoor
open Go.RowKit

theorem Tryz.size131 : (Tryz.prog.info? 224).map (·.size) = some 1 := by kernel_rfl

theorem natV_u32 {w : World} {v : Value} {n : Nat} (h : NatV w v n) {K : Nat} (hn : n < 4294967296 ^ K) : ∃ ds, U32s w v ds ∧ Dig ds ∧ Top ds ∧ val ds = n ∧ ds.length ≤ K := by
  obtain ⟨ds, h1, h2, h3, h4⟩ := h
  exact ⟨ds, h1, h2, h3, h4, h3.len (by rw [h4]; exact hn)⟩

set_option maxRecDepth 100000 in
set_option maxHeartbeats 1000000 in
theorem plus_any (w : World) (u v : Value) (m n K : Nat) (hu : NatV w u m) (hv : NatV w v n) (hm : m < 4294967296 ^ K) (hn : n < 4294967296 ^ K) (hK : K ≤ 1073741823) :
    Calls Tryz.prog 221 #[u, v] w fun e w' => ∃ x, e = .returned x ∧ NatV w' x (m + n) ∧ Below w.heap.size w w' := by
  obtain ⟨ds, hu1, hd, ht, rfl, hl⟩ := natV_u32 hu hm
  obtain ⟨es, hv1, hd', ht', rfl, hl'⟩ := natV_u32 hv hn
  have hu2 := hu1
  have hv2 := hv1
  obtain ⟨ao, cap, rfl, hc, hr⟩ := hu1
  obtain ⟨ao', cap', rfl, hc', hr'⟩ := hv1
  obtain ⟨i0, hi, hz0, hz1, hz2⟩ := info_parts Tryz.info131
  clear hr hr' hm hn ht ht' hu hv
  by_cases hlt : ds.length < es.length
  · go_enter Tryz.func221, Tryz.ntmps221
    go_wp2_with (first | (at_make; refine make_u32b _ rfl _ _ 99 rfl 224 i0 Tryz.underlying99 hi hz0 hz1 hz2 _ _ _ _ (es.length + 1) rfl rfl (by simp) (by simp) (by omega) ?_; intro w1 hblk hbel1) | (refine copy_u32 rfl _ _ _ _ rfl 224 Tryz.underlying99 Tryz.size131 w.heap.size _ _ _ (List.replicate (es.length + 1) 0) es rfl (by simp) rfl (hv2.below hbel1) hblk.out (by simp) w.heap.size w hbel1 (Nat.le_refl _) ?_; intro w2 hblk2 hbel2))
    have hdr0 : es ++ (List.replicate (es.length + 1) 0).drop es.length = es ++ [0] := by rw [List.drop_replicate, show es.length + 1 - es.length = 1 by omega]; rfl
    rw [hdr0] at hblk2
    obtain ⟨hrow2, hfr2, hsz2⟩ := row_of_block hblk2.out
    have hlen2 : (es ++ [0]).length = es.length + 1 := by simp
    have hdig2 : Dig (es ++ [0]) := Dig.append hd' (by intro d hd; simp at hd; omega)
    have hadd := addInto_any w2 w.heap.size 0 (es.length + 1) (es ++ [0]) ds _ (by omega) (by omega) (by omega) hrow2 (hfr2 _) hdig2 (hu2.away hbel2 w.heap.size (Nat.le_refl _)) hd
    rw [hlen2] at hadd
    refine hadd.mono ?_
    rintro e w3 ⟨rfl, ds', c, hl3, hd3, hrow3, hup3, hval3⟩
    have hval4 := sum_fits (a := es) (b := ds) hd' hd (by omega) (hval3.trans (by rw [val_append]; simp [val]))
    have hbel3 : Below w.heap.size w w3 := hbel2.trans (hup3.below (Nat.le_refl _))
    have hsz3 : w.heap.size < w3.heap.size := by rw [hup3.size]; exact hsz2
    clear hadd hval3
    go_wp2_with fail
    refine (trim_any _ w.heap.size 0 (es.length + 1) (es.length + 1) ds' (by omega) (by omega) (by omega) hrow3).mono ?_
    rintro e w4 ⟨rfl, rfl⟩
    go_wp2
    go_ret
    refine ⟨_, rfl, ?_, hbel3⟩
    have hfin := natV_trim (n := es.length + 1) hrow3 hd3 hsz3 hl3 (Nat.le_refl _)
    rw [hval4, Nat.add_comm (val es) (val ds)] at hfin
    exact hfin
  · go_enter Tryz.func221, Tryz.ntmps221
    go_wp2_with (first | (at_make; refine make_u32b _ rfl _ _ 99 rfl 224 i0 Tryz.underlying99 hi hz0 hz1 hz2 _ _ _ _ (ds.length + 1) rfl rfl (by simp) (by simp) (by omega) ?_; intro w1 hblk hbel1) | (refine copy_u32 rfl _ _ _ _ rfl 224 Tryz.underlying99 Tryz.size131 w.heap.size _ _ _ (List.replicate (ds.length + 1) 0) ds rfl (by simp) rfl (hu2.below hbel1) hblk.out (by simp) w.heap.size w hbel1 (Nat.le_refl _) ?_; intro w2 hblk2 hbel2))
    have hdr0 : ds ++ (List.replicate (ds.length + 1) 0).drop ds.length = ds ++ [0] := by rw [List.drop_replicate, show ds.length + 1 - ds.length = 1 by omega]; rfl
    rw [hdr0] at hblk2
    obtain ⟨hrow2, hfr2, hsz2⟩ := row_of_block hblk2.out
    have hlen2 : (ds ++ [0]).length = ds.length + 1 := by simp
    have hdig2 : Dig (ds ++ [0]) := Dig.append hd (by intro d hd; simp at hd; omega)
    have hadd := addInto_any w2 w.heap.size 0 (ds.length + 1) (ds ++ [0]) es _ (by omega) (by omega) (by omega) hrow2 (hfr2 _) hdig2 (hv2.away hbel2 w.heap.size (Nat.le_refl _)) hd'
    rw [hlen2] at hadd
    refine hadd.mono ?_
    rintro e w3 ⟨rfl, ds', c, hl3, hd3, hrow3, hup3, hval3⟩
    have hval4 := sum_fits (a := ds) (b := es) hd hd' (by omega) (hval3.trans (by rw [val_append]; simp [val]))
    have hbel3 : Below w.heap.size w w3 := hbel2.trans (hup3.below (Nat.le_refl _))
    have hsz3 : w.heap.size < w3.heap.size := by rw [hup3.size]; exact hsz2
    clear hadd hval3
    go_wp2_with fail
    refine (trim_any _ w.heap.size 0 (ds.length + 1) (ds.length + 1) ds' (by omega) (by omega) (by omega) hrow3).mono ?_
    rintro e w4 ⟨rfl, rfl⟩
    go_wp2
    go_ret
    refine ⟨_, rfl, ?_, hbel3⟩
    have hfin := natV_trim (n := ds.length + 1) hrow3 hd3 hsz3 hl3 (Nat.le_refl _)
    rw [hval4] at hfin
    exact hfin
end Go.Proofs.YtnhfdcfnojnofaaGreatDoor

/-
  What Apart of package natural does.
-/
namespace Go.Proofs.YtnhfdcfnojnofaaGreatDoor
open Go.RowKit

theorem U32s.drewN {w : World} {v : Value} {ds : List Nat} (h : U32s w v ds) (q : Nat) : U32s (w.drewN q) v ds := h
theorem NatV.drewN {w : World} {v : Value} {n : Nat} (h : NatV w v n) (q : Nat) : NatV (w.drewN q) v n := h
theorem below_ofDrewN {B q : Nat} {w w' : World} (h : Below B (w.drewN q) w') : Below B w w' := ⟨h.os, h.tape, h.output, h.size, h.block⟩
theorem below_toDrewN {B q : Nat} {w w' : World} (h : Below B w w') : Below B w (w'.drewN q) := ⟨h.os, h.tape, h.output, h.size, h.block⟩

set_option maxHeartbeats 400000 in
theorem trim_nil (w : World) (ao : Option Addr) (cap : Nat) :
    Calls Tryz.prog 225 #[.slice ao 0 cap] w fun e w' => e = .returned (.slice ao 0 cap) ∧ w' = w := by
  go_enter Tryz.func225, Tryz.ntmps225
  go_wp2
  go_loop [0] (fun v => v = .slice ao 0 cap) lenOf
  case atStart => rfl
  case round =>
    subst hrel
    go_wp2
    go_ret
    exact ⟨rfl, rfl⟩

set_option maxHeartbeats 400000 in
theorem takeTimes_nil (w : World) (ao ao' : Option Addr) (cap cap' n : Nat) (f : Int) :
    Calls Tryz.prog 312 #[.slice ao 0 cap, .slice ao' n cap', .int .u32 f] w fun e w' => e = .returned (.int .u64 0) ∧ w' = w := by
  go_enter Tryz.func312, Tryz.ntmps312
  go_wp2
  go_loop [7, 8, 13] (fun c b i => c = .int .u64 0 ∧ b = .int .u64 0 ∧ i = .int .i64 0) (fun _ _ _ => 0)
  case atStart => exact ⟨rfl, rfl, rfl⟩
  case round =>
    obtain ⟨rfl, rfl, rfl⟩ := hrel
    go_wp2
    go_ret
    exact ⟨rfl, rfl⟩

/-- What is behind the choice of the greater: clone, take, trim. -/
theorem apart_core {w w1 : World} {v x : Value} {ds es : List Nat} (hown : OwnU w w1 x ds) (hbel : Below w.heap.size w w1) (hlen : ds.length ≤ 1073741824) (hd : Dig ds) (hd' : Dig es) (hv : U32s w v es) (hes : es.length ≤ ds.length)
    (hle : val es ≤ val ds) :
    Calls Tryz.prog 312 #[x, v, .int .u32 1] w1 fun e w2 => (∃ r : Nat, e = .returned (.int .u64 (r : Nat))) ∧ Below w.heap.size w w2 ∧
      Calls Tryz.prog 225 #[x] w2 fun e w3 => ∃ y, e = .returned y ∧ NatV w3 y (val ds - val es) ∧ Below w.heap.size w w3 := by
  obtain ⟨ao, cap, rfl, hc, hr⟩ := hown
  by_cases h0 : ds = []
  · subst h0
    have h1 : es = [] := List.length_eq_zero_iff.1 (by simpa using hes)
    subst h1
    obtain ⟨ao', cap', rfl, _, _⟩ := hv
    refine (takeTimes_nil w1 ao ao' cap cap' 0 1).mono ?_
    rintro e w2 ⟨rfl, rfl⟩
    refine ⟨⟨0, rfl⟩, hbel, ?_⟩
    refine (trim_nil _ ao cap).mono ?_
    rintro e w3 ⟨rfl, rfl⟩
    exact ⟨_, rfl, NatV.zero _ _ _, hbel⟩
  · obtain ⟨g, rfl, hg, hgl, hrow, hfr⟩ := hr h0
    refine (takeTimes_any w1 g 0 cap 1 ds es v hc hlen hes (by omega) hrow hfr hd (hv.away hbel g hg) hd').mono ?_
    rintro e w2 ⟨ds', r, rfl, _, hl2, hd2, hrow2, hup2, hval2⟩
    have hb2 : Below w.heap.size w w2 := hbel.trans (hup2.below hg)
    refine ⟨⟨r, rfl⟩, hb2, ?_⟩
    refine (trim_any w2 g 0 cap ds.length ds' hc (by omega) (by omega) hrow2).mono ?_
    rintro e w3 ⟨rfl, rfl⟩
    refine ⟨_, rfl, ?_, hb2⟩
    have hfin := natV_trim (n := ds.length) hrow2 hd2 (by rw [hup2.size]; exact hgl) hl2 hc
    rw [sub_fits (a := ds) (b := es) hd2 hl2 hle hval2] at hfin
    exact hfin

set_option maxRecDepth 100000 in
set_option maxHeartbeats 1000000 in
theorem apart_any (w : World) (u v : Value) (m n K : Nat) (hu : NatV w u m) (hv : NatV w v n) (hm : m < 4294967296 ^ K) (hn : n < 4294967296 ^ K) (hK : K ≤ 1073741823) :
    Calls Tryz.prog 297 #[u, v] w fun e w' => ∃ x, e = .returned x ∧ NatV w' x ((m - n) + (n - m)) ∧ Below w.heap.size w w' := by
  obtain ⟨ds, hu1, hd, ht, hvu, hl⟩ := natV_u32 hu hm
  obtain ⟨es, hv1, hd', ht', hvv, hl'⟩ := natV_u32 hv hn
  by_cases hlt : m < n
  · have hle : ds.length ≤ es.length := by
      rcases Nat.lt_or_ge es.length ds.length with h | h
      · have := ht.lt_of_len hd' h; omega
      · exact h
    go_enter Tryz.func297, Tryz.ntmps297
    go_wp2_with fail
    refine (compare_any w u v m n K hu hv hm hn (by omega)).mono ?_
    rintro e w1 ⟨rfl, q, rfl⟩
    rw [cmpI_lt hlt]
    go_wp2_with fail
    refine (clone_any (w.drewN q) v es hv1 (by omega)).mono ?_
    rintro e w1 ⟨x, rfl, hown, hbel⟩
    have hcore := apart_core hown hbel (by omega) hd' hd (hu1.drewN q) hle (by omega)
    go_wp2_with fail
    refine hcore.mono ?_
    rintro e w2 ⟨⟨r, rfl⟩, hb2, hcore2⟩
    go_wp2_with fail
    refine hcore2.mono ?_
    rintro e w3 ⟨y, rfl, hy, hb3⟩
    go_wp2
    go_ret
    refine ⟨_, rfl, ?_, below_ofDrewN hb3⟩
    have e1 : (m - n) + (n - m) = val es - val ds := by omega
    rw [e1]
    exact hy
  · have hle : es.length ≤ ds.length := by
      rcases Nat.lt_or_ge ds.length es.length with h | h
      · have := ht'.lt_of_len hd h; omega
      · exact h
    have hc0 : 0 ≤ cmpI m n := by
      rcases Nat.lt_or_ge n m with h | h
      · rw [cmpI_gt h]; omega
      · rw [cmpI_eq (by omega)]; omega
    go_enter Tryz.func297, Tryz.ntmps297
    go_wp2_with fail
    refine (compare_any w u v m n K hu hv hm hn (by omega)).mono ?_
    rintro e w1 ⟨rfl, q, rfl⟩
    generalize cmpI m n = cc at *
    go_wp2_with fail
    refine (clone_any (w.drewN q) u ds hu1 (by omega)).mono ?_
    rintro e w1 ⟨x, rfl, hown, hbel⟩
    have hcore := apart_core hown hbel (by omega) hd hd' (hv1.drewN q) hle (by omega)
    go_wp2_with fail
    refine hcore.mono ?_
    rintro e w2 ⟨⟨r, rfl⟩, hb2, hcore2⟩
    go_wp2_with fail
    refine hcore2.mono ?_
    rintro e w3 ⟨y, rfl, hy, hb3⟩
    go_wp2
    go_ret
    refine ⟨_, rfl, ?_, below_ofDrewN hb3⟩
    have e1 : (m - n) + (n - m) = val ds - val es := by omega
    rw [e1]
    exact hy
end Go.Proofs.YtnhfdcfnojnofaaGreatDoor

/-
  What Over of package natural does, longDivide taken as given.
-/
namespace Go.Proofs.YtnhfdcfnojnofaaGreatDoor
open Go.RowKit

/-- What Over must do, up to numbers of K digits. -/
def OverOK (K : Nat) : Prop := ∀ (w : World) (u v : Value) (m n : Nat), NatV w u m → NatV w v n → m < 4294967296 ^ K → n < 4294967296 ^ K →
  Calls Tryz.prog 138 #[u, v] w fun e w' => ∃ x y, e = .returned (.tuple #[x, y]) ∧ NatV w' x (m / n) ∧ NatV w' y (m % n) ∧ Below w.heap.size w w'

/-- What longDivide must do, up to numbers of K digits. -/
def LongOK (K : Nat) : Prop := ∀ (w : World) (u v : Value) (m n : Nat), NatV w u m → NatV w v n → m < 4294967296 ^ K → n ≤ m → 4294967296 ^ 2 ≤ m → 4294967296 ≤ n →
  Calls Tryz.prog 226 #[u, v] w fun e w' => ∃ x y, e = .returned (.tuple #[x, y]) ∧ NatV w' x (m / n) ∧ NatV w' y (m % n) ∧ Below w.heap.size w w'

theorem of_int (w : World) (x : Int) (n : Nat) (hx : x = (n : Int)) (hn : n < 18446744073709551616) :
    Calls Tryz.prog 218 #[.int .u64 x] w fun e w' => ∃ v, e = .returned v ∧ NatV w' v n ∧ Below w.heap.size w w' := by
  subst hx
  exact of_any w n hn

end Go.Proofs.YtnhfdcfnojnofaaGreatDoor

/-
  What package whole does.
-/
namespace Go.Proofs.YtnhfdcfnojnofaaGreatDoor
open Go.RowKit

theorem NatV.slice {w : World} {v : Value} {n : Nat} (h : NatV w v n) : ∃ ao l cap, v = .slice ao l cap := by
  obtain ⟨ds, ⟨ao, cap, hv, _⟩, _⟩ := h
  exact ⟨ao, _, cap, hv⟩

/-- A store into a cell that holds no digit leaves every natural alone. -/
theorem NatV.setCell {w : World} {v : Value} {n : Nat} (h : NatV w v n) {a : Addr} {y : Value} (hy : w.cell? a = some y) (hn : ∀ k, y ≠ .int .u32 k) (x : Value) : NatV (w.setCell a x) v n := by
  obtain ⟨ds, ⟨ao, cap, hv, hc, hr⟩, h2⟩ := h
  refine ⟨ds, ⟨ao, cap, hv, hc, fun hne => ?_⟩, h2⟩
  obtain ⟨b, off, ha, hb, hrow⟩ := hr hne
  refine ⟨b, off, ha, by simpa using hb, fun i hi => ?_⟩
  rw [World.cell?_setCell_other _ _ _ _ (by
    intro he
    have := hrow i hi
    rw [← he, hy, Option.some.injEq] at this
    exact hn _ this)]
  exact hrow i hi

/-- A struct value that stands for a whole number. -/
def WholeV (w : World) (x : Value) (z : Int) : Prop := ∃ b v, x = .agg #[.bool b, v] ∧ NatV w v z.natAbs ∧ Hid (b = decide (z < 0))

theorem WholeV.below {w w' : World} {x : Value} {z : Int} (h : WholeV w x z) (hb : Below w.heap.size w w') : WholeV w' x z := by
  obtain ⟨b, v, h1, h2, h3⟩ := h
  exact ⟨b, v, h1, h2.below hb, h3⟩

/-- The number of a sign and a size. -/
def sg (b : Bool) (n : Nat) : Int := if b then -(n : Int) else n

theorem sg_abs (b : Bool) (n : Nat) : (sg b n).natAbs = n := by cases b <;> simp [sg]
theorem sg_neg (b : Bool) (n : Nat) : decide (sg b n < 0) = (b && !(n == 0)) := by
  cases b
  · simp [sg]
  · by_cases h : n = 0
    · subst h; simp [sg]
    · have h1 : 0 < n := Nat.pos_of_ne_zero h
      have h2 : (n == 0) = false := beq_eq_false_iff_ne.2 h
      simp [sg, h1, h2]

theorem wholeV_sg {w : World} {b c : Bool} {v : Value} {n : Nat} (h : NatV w v n) (hc : c = (b && !(n == 0))) : WholeV w (.agg #[.bool c, v]) (sg b n) :=
  ⟨c, v, rfl, by rw [sg_abs]; exact h, by rw [Hid, sg_neg]; exact hc⟩

/-- A whole laid into a box of its own and read from there. -/
theorem wholeV_boxed {w : World} {g : Nat} {b0 b : Bool} {a0 : Option Addr} {l0 c0 : Nat} {v : Value} {z : Int} (hv : NatV w v z.natAbs) (hb : Hid (b = decide (z < 0))) (h0 : w.cell? ⟨g, 0, none⟩ = some (.bool b0)) (h1 : w.cell? ⟨g, 1, none⟩ = some (.slice a0 l0 c0)) :
    WholeV ((w.setCell ⟨g, 0, none⟩ (.bool b)).setCell ⟨g, 1, none⟩ v) (.agg #[.bool b, v]) z := by
  refine ⟨b, v, rfl, ?_, hb⟩
  refine (hv.setCell h0 (by simp) _).setCell (y := .slice a0 l0 c0) ?_ (by simp) _
  rw [World.cell?_setCell_other _ _ _ _ (by simp)]
  exact h1

theorem WholeV.setCell {w : World} {x : Value} {z : Int} (h : WholeV w x z) {a : Addr} {y : Value} (hy : w.cell? a = some y) (hn : ∀ k, y ≠ .int .u32 k) (u : Value) : WholeV (w.setCell a u) x z := by
  obtain ⟨b, v, h1, h2, h3⟩ := h
  exact ⟨b, v, h1, h2.setCell hy hn u, h3⟩

theorem WholeV.drewN {w : World} {x : Value} {z : Int} (h : WholeV w x z) (q : Nat) : WholeV (w.drewN q) x z := h
theorem WholeV.alloc {w : World} {x : Value} {z : Int} (h : WholeV w x z) (o : Obj) : WholeV (w.alloc o) x z := h.below ((Below.refl _ _).alloc (Nat.le_refl _) o)
theorem WholeV.parts {w : World} {x : Value} {z : Int} (h : WholeV w x z) : ∃ b ao l cap, x = .agg #[.bool b, .slice ao l cap] ∧ NatV w (.slice ao l cap) z.natAbs ∧ Hid (b = decide (z < 0)) := by
  obtain ⟨b, v, h1, h2, h3⟩ := h
  obtain ⟨ao, l, cap, rfl⟩ := h2.slice
  exact ⟨b, ao, l, cap, h1, h2, h3⟩

set_option maxRecDepth 100000 in
set_option maxHeartbeats 400000 in
theorem signed_any (w : World) (b : Bool) (v : Value) (n : Nat) (h : NatV w v n) :
    Calls Tryz.prog 129 #[.bool b, v] w fun e w' => ∃ x, e = .returned x ∧ WholeV w' x (sg b n) ∧ Below w.heap.size w w' := by
  obtain ⟨ao, l, cap, rfl⟩ := h.slice
  cases b with
  | false =>
    go_enter Tryz.func129, Tryz.ntmps129
    go_wp2
    exact bodyPost_ret (v := .agg #[.bool false, .slice ao l cap]) (by simp [results, Tryz.results129, go_sem]) rfl ⟨_, rfl, wholeV_sg (h.alloc _) rfl, (Below.refl _ _).alloc (Nat.le_refl _) _⟩
  | true =>
    by_cases h0 : n = 0
    · subst h0
      go_enter Tryz.func129, Tryz.ntmps129
      go_wp2_with fail
      refine (isZero_yes _ _ (h.alloc _)).mono ?_
      rintro e w' ⟨rfl, rfl⟩
      go_wp2
      exact bodyPost_ret (v := .agg #[.bool false, .slice ao l cap]) (by simp [results, Tryz.results129, go_sem]) rfl ⟨_, rfl, wholeV_sg (h.alloc _) rfl, (Below.refl _ _).alloc (Nat.le_refl _) _⟩
    · go_enter Tryz.func129, Tryz.ntmps129
      go_wp2_with fail
      refine (isZero_no _ _ n (h.alloc _) h0).mono ?_
      rintro e w' ⟨rfl, rfl⟩
      go_wp2
      exact bodyPost_ret (v := .agg #[.bool true, .slice ao l cap]) (by simp [results, Tryz.results129, go_sem]) rfl ⟨_, rfl, wholeV_sg (h.alloc _) (by simp [h0]), (Below.refl _ _).alloc (Nat.le_refl _) _⟩

end Go.Proofs.YtnhfdcfnojnofaaGreatDoor

/-
  What package whole does: Size, Sign, Turned, Times, Plus.
-/
namespace Go.Proofs.YtnhfdcfnojnofaaGreatDoor
open Go.RowKit

theorem neg_of {z : Int} {b : Bool} (h : Hid (b = decide (z < 0))) : z = sg b z.natAbs := by
  have h1 := h.out
  subst h1
  by_cases hz : z < 0
  · simp [sg, hz]; omega
  · simp [sg, hz]; omega

theorem below2 (w : World) (A B : Obj) : Below w.heap.size w ((w.alloc A).alloc B) := ((Below.refl _ _).alloc (Nat.le_refl _) _).alloc (by simp) _
theorem below3 (w : World) (A B C : Obj) : Below w.heap.size w (((w.alloc A).alloc B).alloc C) := (below2 w A B).alloc (by simp; omega) _

theorem far {w : World} {g o h p : Nat} {x : Value} (hne : g ≠ h) : (w.setCell ⟨g, o, none⟩ x).cell? ⟨h, p, none⟩ = w.cell? ⟨h, p, none⟩ :=
  World.cell?_setCell_other _ _ _ _ (fun e => hne (by injection e))

/-- A box of two cells that may be written. -/
def Box2 (w : World) (g : Nat) (x y : Value) : Prop :=
  w.cell? ⟨g, 0, none⟩ = some x ∧ w.cell? ⟨g, 1, none⟩ = some y ∧ w.frozen? ⟨g, 0, none⟩ = false ∧ w.frozen? ⟨g, 1, none⟩ = false ∧ g < w.heap.size
theorem Box2.below {w w' : World} {g : Nat} {x y : Value} (h : Box2 w g x y) (hb : Below w.heap.size w w') : Box2 w' g x y := by
  obtain ⟨h1, h2, h3, h4, h5⟩ := h
  exact ⟨(hb.cell (p := ⟨g, 0, none⟩) h5).trans h1, (hb.cell (p := ⟨g, 1, none⟩) h5).trans h2, (hb.frozen (p := ⟨g, 0, none⟩) h5).trans h3, (hb.frozen (p := ⟨g, 1, none⟩) h5).trans h4, Nat.lt_of_lt_of_le h5 hb.size⟩
theorem Box2.new (w : World) (x y : Value) (t : TypeId) : Box2 (w.alloc (.cells #[x, y] t)) w.heap.size x y := by
  refine ⟨?_, ?_, ?_, ?_, ?_⟩ <;> simp
theorem Box2.alloc {w : World} {g : Nat} {x y : Value} (h : Box2 w g x y) (o : Obj) : Box2 (w.alloc o) g x y := h.below ((Below.refl _ _).alloc (Nat.le_refl _) o)
theorem Box2.drew {w : World} {g : Nat} {x y : Value} (h : Box2 w g x y) : Box2 w.drew g x y := h
theorem Box2.drewN {w : World} {g : Nat} {x y : Value} (h : Box2 w g x y) (q : Nat) : Box2 (w.drewN q) g x y := h

set_option maxRecDepth 100000 in
set_option maxHeartbeats 400000 in
theorem sign_any (w : World) (x : Value) (z : Int) (h : WholeV w x z) :
    Calls Tryz.prog 242 #[x] w fun e w' => e = .returned (.int .i64 z.sign) ∧ Below w.heap.size w w' := by
  obtain ⟨b, ao, l, cap, rfl, hv, hb⟩ := h.parts
  cases b with
  | true =>
    have hz : z < 0 := by have := hb.out; simpa using this
    go_enter Tryz.func242, Tryz.ntmps242
    go_wp2
    go_ret
    exact ⟨ret_int (by rw [Int.sign_eq_neg_one_of_neg hz]), (Below.refl _ _).alloc (Nat.le_refl _) _⟩
  | false =>
    have hz : ¬ z < 0 := by have := hb.out; simpa using this
    by_cases h0 : z.natAbs = 0
    · have hz0 : z = 0 := by omega
      subst hz0
      go_enter Tryz.func242, Tryz.ntmps242
      go_wp2_with fail
      refine (isZero_yes _ _ (hv.alloc _)).mono ?_
      rintro e w' ⟨rfl, rfl⟩
      go_wp2
      go_ret
      exact ⟨rfl, (Below.refl _ _).alloc (Nat.le_refl _) _⟩
    · have hz1 : 0 < z := by omega
      go_enter Tryz.func242, Tryz.ntmps242
      go_wp2_with fail
      refine (isZero_no _ _ _ (hv.alloc _) h0).mono ?_
      rintro e w' ⟨rfl, rfl⟩
      go_wp2
      go_ret
      exact ⟨ret_int (by rw [Int.sign_eq_one_of_pos hz1]), (Below.refl _ _).alloc (Nat.le_refl _) _⟩

set_option maxRecDepth 100000 in
set_option maxHeartbeats 400000 in
theorem wturned_any (w : World) (x : Value) (z : Int) (h : WholeV w x z) :
    Calls Tryz.prog 209 #[x] w fun e w' => ∃ y, e = .returned y ∧ WholeV w' y (-z) ∧ Below w.heap.size w w' := by
  obtain ⟨b, ao, l, cap, rfl, hv, hb⟩ := h.parts
  have hs : sg (!b) z.natAbs = -z := by
    rw [neg_of hb]
    cases b <;> simp [sg]
  go_enter Tryz.func209, Tryz.ntmps209
  go_wp2_with fail
  refine (signed_any _ _ _ z.natAbs ((hv.alloc _).alloc _)).mono ?_
  rintro e w' ⟨y, rfl, hy, hbel⟩
  rw [hs] at hy
  obtain ⟨b2, ao2, l2, cap2, rfl, hv2, hb2⟩ := hy.parts
  obtain ⟨hc, hf⟩ := bcell hbel
  have c0 : w'.cell? ⟨w.heap.size + 1, 0, none⟩ = some (.bool false) := by rw [hc _ _ (by simp)]; simp
  have c1 : w'.cell? ⟨w.heap.size + 1, 1, none⟩ = some (.slice none 0 0) := by rw [hc _ _ (by simp)]; simp
  clear hs
  go_wp2
  exact bodyPost_ret (v := .agg #[.bool b2, .slice ao2 l2 cap2]) (by simp [results, Tryz.results209, go_sem, c0, c1]) rfl ⟨_, rfl, wholeV_boxed hv2 hb2 c0 c1,
    (((below2 w _ _).trans (hbel.mono (below2 w _ _).size)).setCell (by simp) _).setCell (by simp) _⟩

set_option maxRecDepth 100000 in
set_option maxHeartbeats 1000000 in
theorem wplus_any (w : World) (x y : Value) (z t : Int) (K : Nat) (hK : K ≤ 1073741823) (h : WholeV w x z) (k : WholeV w y t) (hz : z.natAbs < 4294967296 ^ K) (ht : t.natAbs < 4294967296 ^ K) :
    Calls Tryz.prog 203 #[x, y] w fun e w' => ∃ s, e = .returned s ∧ WholeV w' s (z + t) ∧ Below w.heap.size w w' := by
  obtain ⟨b, ao, l, cap, rfl, hv, hb⟩ := h.parts
  obtain ⟨c, ao', l', cap', rfl, hv', hb'⟩ := k.parts
  have e1 := neg_of hb
  have e2 := neg_of hb'
  by_cases hbc : b = c
  · subst hbc
    have hs : sg b (z.natAbs + t.natAbs) = z + t := by
      cases b <;> simp [sg] at * <;> omega
    have HS := hide hs
    have hbb : (b == b) = true := by simp
    clear e1 e2 hs
    go_enter Tryz.func203, Tryz.ntmps203
    go_wp2
    have hbox : Box2 (((w.alloc (.cells #[.bool b, .slice ao l cap] 101)).alloc (.cells #[.bool b, .slice ao' l' cap'] 101)).alloc (.cells #[.bool false, .slice none 0 0] 101)) (w.heap.size + 1 + 1) (.bool false) (.slice none 0 0) := by
      have := Box2.new ((w.alloc (.cells #[.bool b, .slice ao l cap] 101)).alloc (.cells #[.bool b, .slice ao' l' cap'] 101)) (.bool false) (.slice none 0 0) 101
      simpa using this
    have hboxQ : Box2 (((w.alloc (.cells #[.bool b, .slice ao l cap] 101)).alloc (.cells #[.bool b, .slice ao' l' cap'] 101)).alloc (.cells #[.bool false, .slice none 0 0] 101)) (w.heap.size + 1) (.bool b) (.slice ao' l' cap') := by
      have := (Box2.new (w.alloc (.cells #[.bool b, .slice ao l cap] 101)) (.bool b) (.slice ao' l' cap') 101).alloc (.cells #[.bool false, .slice none 0 0] 101)
      simpa using this
    have hboxP : Box2 (((w.alloc (.cells #[.bool b, .slice ao l cap] 101)).alloc (.cells #[.bool b, .slice ao' l' cap'] 101)).alloc (.cells #[.bool false, .slice none 0 0] 101)) w.heap.size (.bool b) (.slice ao l cap) := ((Box2.new w _ _ _).alloc _).alloc _
    have hb3 := below3 w (.cells #[.bool b, .slice ao l cap] 101) (.cells #[.bool b, .slice ao' l' cap'] 101) (.cells #[.bool false, .slice none 0 0] 101)
    go_region_held (fun w' => w'.cell? ⟨w.heap.size, 0, none⟩ = some (.bool b) ∧ w'.cell? ⟨w.heap.size, 1, none⟩ = some (.slice ao l cap) ∧ w'.cell? ⟨w.heap.size + 1, 1, none⟩ = some (.slice ao' l' cap')) (first | (refine ⟨?_, ?_, ?_⟩ <;> (rw [far, far] <;> first | assumption | omega)) | go_keep) (first | (go_at_call 221; refine (plus_any _ _ _ z.natAbs t.natAbs K (by exact NatV.drew (((hv.alloc _).alloc _).alloc _)) (by exact NatV.drew (((hv'.alloc _).alloc _).alloc _)) hz ht hK).mono ?_; rintro e wA ⟨s, rfl, hs, hbs⟩; have hboxP2 := hboxP.drew.below hbs; obtain ⟨p0, p1, p2, p3, p4⟩ := hboxP2; have hboxQ2 := hboxQ.drew.below hbs; obtain ⟨q0, q1, q2, q3, q4⟩ := hboxQ2) | (go_at_call 129; refine (signed_any _ _ _ _ hs).mono ?_; rintro e wB ⟨r, rfl, hr, hbr⟩; rw [HS.out] at hr; obtain ⟨b2, ao2, l2, cap2, rfl, hv2, hb2⟩ := hr.parts; have hboxP3 := (hboxP.drew.below hbs).below hbr; obtain ⟨r0, r1, r2, r3, r4⟩ := hboxP3; have hboxQ3 := (hboxQ.drew.below hbs).below hbr; obtain ⟨t0, t1, t2, t3, t4⟩ := hboxQ3; have hbox2 := (hbox.drew.below hbs).below hbr; obtain ⟨c0, c1, f0, f1, g0⟩ := hbox2))
    have hbA : Below w.heap.size w wA := hb3.trans (Below.mono (w := ((w.alloc (.cells #[.bool b, .slice ao l cap] 101)).alloc (.cells #[.bool b, .slice ao' l' cap'] 101)).alloc (.cells #[.bool false, .slice none 0 0] 101)) ⟨hbs.os, hbs.tape, hbs.output, hbs.size, hbs.block⟩ hb3.size)
    have hbB : Below w.heap.size w wB := hbA.trans (hbr.mono hbA.size)
    go_wp2
    exact bodyPost_ret (v := .agg #[.bool b2, .slice ao2 l2 cap2]) (by simp [results, Tryz.results203, go_sem, c0, c1]) rfl ⟨_, rfl, wholeV_boxed hv2 hb2 c0 c1,
      (hbB.setCell (by simp; omega) _).setCell (by simp; omega) _⟩
  · have hbc2 : (b == c) = false := by simpa using hbc
    have hbox : Box2 (((w.alloc (.cells #[.bool b, .slice ao l cap] 101)).alloc (.cells #[.bool c, .slice ao' l' cap'] 101)).alloc (.cells #[.bool false, .slice none 0 0] 101)) (w.heap.size + 1 + 1) (.bool false) (.slice none 0 0) := by
      have := Box2.new ((w.alloc (.cells #[.bool b, .slice ao l cap] 101)).alloc (.cells #[.bool c, .slice ao' l' cap'] 101)) (.bool false) (.slice none 0 0) 101
      simpa using this
    have hb3 := below3 w (.cells #[.bool b, .slice ao l cap] 101) (.cells #[.bool c, .slice ao' l' cap'] 101) (.cells #[.bool false, .slice none 0 0] 101)
    by_cases hlt : z.natAbs < t.natAbs
    · have hs : sg c ((z.natAbs - t.natAbs) + (t.natAbs - z.natAbs)) = z + t := by
        cases b <;> cases c <;> simp [sg] at * <;> omega
      have HS := hide hs
      clear e1 e2 hs hbc
      go_enter Tryz.func203, Tryz.ntmps203
      go_wp2_with fail
      refine (compare_any _ _ _ z.natAbs t.natAbs K (((hv.alloc _).alloc _).alloc _) (((hv'.alloc _).alloc _).alloc _) hz ht (by omega)).mono ?_
      rintro e w1 ⟨rfl, q, rfl⟩
      rw [cmpI_lt hlt]
      go_wp2_with fail
      refine (apart_any _ _ _ z.natAbs t.natAbs K (by exact NatV.drewN (((hv.alloc _).alloc _).alloc _) q) (by exact NatV.drewN (((hv'.alloc _).alloc _).alloc _) q) hz ht hK).mono ?_
      rintro e wA ⟨s, rfl, hs, hbs⟩
      go_wp2_with fail
      refine (signed_any _ _ _ _ hs).mono ?_
      rintro e wB ⟨r, rfl, hr, hbr⟩
      rw [HS.out] at hr
      obtain ⟨b2, ao2, l2, cap2, rfl, hv2, hb2⟩ := hr.parts
      have hbox2 := ((hbox.drewN q).below hbs).below hbr
      have hbA : Below w.heap.size w wA := hb3.trans ((below_ofDrewN hbs).mono hb3.size)
      have hbB : Below w.heap.size w wB := hbA.trans (hbr.mono hbA.size)
      obtain ⟨c0, c1, f0, f1, g0⟩ := hbox2
      clear hbs hbr hbA hs hbox
      go_wp2
      exact bodyPost_ret (v := .agg #[.bool b2, .slice ao2 l2 cap2]) (by simp [results, Tryz.results203, go_sem, c0, c1]) rfl ⟨_, rfl, wholeV_boxed hv2 hb2 c0 c1,
        (hbB.setCell (by simp; omega) _).setCell (by simp; omega) _⟩
    · have hs : sg b ((z.natAbs - t.natAbs) + (t.natAbs - z.natAbs)) = z + t := by
        cases b <;> cases c <;> simp [sg] at * <;> omega
      have HS := hide hs
      have hc0 : 0 ≤ cmpI z.natAbs t.natAbs := by
        rcases Nat.lt_or_ge t.natAbs z.natAbs with h | h
        · rw [cmpI_gt h]; omega
        · rw [cmpI_eq (by omega)]; omega
      clear e1 e2 hs hbc
      go_enter Tryz.func203, Tryz.ntmps203
      go_wp2_with fail
      refine (compare_any _ _ _ z.natAbs t.natAbs K (((hv.alloc _).alloc _).alloc _) (((hv'.alloc _).alloc _).alloc _) hz ht (by omega)).mono ?_
      rintro e w1 ⟨rfl, q, rfl⟩
      generalize cmpI z.natAbs t.natAbs = cc at *
      go_wp2_with fail
      refine (apart_any _ _ _ z.natAbs t.natAbs K (by exact NatV.drewN (((hv.alloc _).alloc _).alloc _) q) (by exact NatV.drewN (((hv'.alloc _).alloc _).alloc _) q) hz ht hK).mono ?_
      rintro e wA ⟨s, rfl, hs, hbs⟩
      go_wp2_with fail
      refine (signed_any _ _ _ _ hs).mono ?_
      rintro e wB ⟨r, rfl, hr, hbr⟩
      rw [HS.out] at hr
      obtain ⟨b2, ao2, l2, cap2, rfl, hv2, hb2⟩ := hr.parts
      have hbox2 := ((hbox.drewN q).below hbs).below hbr
      have hbA : Below w.heap.size w wA := hb3.trans ((below_ofDrewN hbs).mono hb3.size)
      have hbB : Below w.heap.size w wB := hbA.trans (hbr.mono hbA.size)
      obtain ⟨c0, c1, f0, f1, g0⟩ := hbox2
      clear hbs hbr hbA hs hbox
      go_wp2
      exact bodyPost_ret (v := .agg #[.bool b2, .slice ao2 l2 cap2]) (by simp [results, Tryz.results203, go_sem, c0, c1]) rfl ⟨_, rfl, wholeV_boxed hv2 hb2 c0 c1,
        (hbB.setCell (by simp; omega) _).setCell (by simp; omega) _⟩
end Go.Proofs.YtnhfdcfnojnofaaGreatDoor

/-
  What package whole does: Times, Of, FloorOver, Compare.
-/
namespace Go.Proofs.YtnhfdcfnojnofaaGreatDoor
open Go.RowKit

set_option maxRecDepth 100000 in
set_option maxHeartbeats 400000 in
theorem wof_any (w : World) (n : Nat) (hn : n < 9223372036854775808) :
    Calls Tryz.prog 152 #[.int .i64 (n : Nat)] w fun e w' => ∃ s, e = .returned s ∧ WholeV w' s (n : Int) ∧ Below w.heap.size w w' := by
  have hbox : Box2 (w.alloc (.cells #[.bool false, .slice none 0 0] 101)) w.heap.size (.bool false) (.slice none 0 0) := Box2.new _ _ _ _
  have hb1 : Below w.heap.size w (w.alloc (.cells #[.bool false, .slice none 0 0] 101)) := (Below.refl _ _).alloc (Nat.le_refl _) _
  go_enter Tryz.func152, Tryz.ntmps152
  go_wp2_with fail
  refine (of_int _ _ n (by simp) (by omega)).mono ?_
  rintro e wA ⟨s, rfl, hs, hbs⟩
  go_wp2_with fail
  refine (signed_any _ _ _ _ hs).mono ?_
  rintro e wB ⟨r, rfl, hr, hbr⟩
  rw [show sg false n = (n : Int) from rfl] at hr
  obtain ⟨b2, ao2, l2, cap2, rfl, hv2, hb2⟩ := hr.parts
  have hbox2 := (hbox.below hbs).below hbr
  have hbA : Below w.heap.size w wA := hb1.trans (hbs.mono hb1.size)
  have hbB : Below w.heap.size w wB := hbA.trans (hbr.mono hbA.size)
  obtain ⟨c0, c1, f0, f1, g0⟩ := hbox2
  clear hbs hbr hbA hs hbox
  go_wp2
  exact bodyPost_ret (v := .agg #[.bool b2, .slice ao2 l2 cap2]) (by simp [results, Tryz.results152, go_sem, c0, c1]) rfl ⟨_, rfl, wholeV_boxed hv2 hb2 c0 c1,
    (hbB.setCell (by simp) _).setCell (by simp) _⟩

end Go.Proofs.YtnhfdcfnojnofaaGreatDoor
