/-
  What Plus and Apart of package natural do.
-/
import Derived.Test.YtcmdglfjnepahaaGreatDoorNat7
set_option linter.unusedSimpArgs false
set_option linter.unusedVariables false
namespace Go.Proofs.YtcmdglfjnepahaaGreatDoor
open Go.RowKit

theorem Tryz.size131 : (Tryz.prog.info? 131).map (·.size) = some 1 := by kernel_rfl

theorem natV_u32 {w : World} {v : Value} {n : Nat} (h : NatV w v n) {K : Nat} (hn : n < 4294967296 ^ K) : ∃ ds, U32s w v ds ∧ Dig ds ∧ Top ds ∧ val ds = n ∧ ds.length ≤ K := by
  obtain ⟨ds, h1, h2, h3, h4⟩ := h
  exact ⟨ds, h1, h2, h3, h4, h3.len (by rw [h4]; exact hn)⟩

set_option maxRecDepth 100000 in
set_option maxHeartbeats 1000000 in
theorem plus_any (w : World) (u v : Value) (m n K : Nat) (hu : NatV w u m) (hv : NatV w v n) (hm : m < 4294967296 ^ K) (hn : n < 4294967296 ^ K) (hK : K ≤ 1073741823) :
    Calls Tryz.prog 135 #[u, v] w fun e w' => ∃ x, e = .returned x ∧ NatV w' x (m + n) ∧ Below w.heap.size w w' := by
  obtain ⟨ds, hu1, hd, ht, rfl, hl⟩ := natV_u32 hu hm
  obtain ⟨es, hv1, hd', ht', rfl, hl'⟩ := natV_u32 hv hn
  have hu2 := hu1
  have hv2 := hv1
  obtain ⟨ao, cap, rfl, hc, hr⟩ := hu1
  obtain ⟨ao', cap', rfl, hc', hr'⟩ := hv1
  obtain ⟨i0, hi, hz0, hz1, hz2⟩ := info_parts Tryz.info131
  clear hr hr' hm hn ht ht' hu hv
  by_cases hlt : ds.length < es.length
  · go_enter Tryz.func135, Tryz.ntmps135
    go_wp2_with (first | (at_make; refine make_u32b _ rfl _ _ 60 rfl 131 i0 Tryz.underlying60 hi hz0 hz1 hz2 _ _ _ _ (es.length + 1) rfl rfl (by simp) (by simp) (by omega) ?_; intro w1 hblk hbel1) | (refine copy_u32 rfl _ _ _ _ rfl 131 Tryz.underlying60 Tryz.size131 w.heap.size _ _ _ (List.replicate (es.length + 1) 0) es rfl (by simp) rfl (hv2.below hbel1) hblk.out (by simp) w.heap.size w hbel1 (Nat.le_refl _) ?_; intro w2 hblk2 hbel2))
    have hdr0 : es ++ (List.replicate (es.length + 1) 0).drop es.length = es ++ [0] := by rw [List.drop_replicate, show es.length + 1 - es.length = 1 by omega]; rfl
    rw [hdr0] at hblk2
    obtain ⟨hrow2, hfr2, hsz2⟩ := row_of_block hblk2.out
    have hlen2 : (es ++ [0]).length = es.length + 1 := by simp
    have hdig2 : Dig (es ++ [0]) := Dig.append hd' (by intro d hd; simp at hd; omega)
    have hadd := addInto_any w2 w.heap.size 0 (es.length + 1) (es ++ [0]) ds _ (by omega) (by omega) (by omega) hrow2 (hfr2 _) hdig2 (hu2.away hbel2 w.heap.size (Nat.le_refl _)) hd
    rw [hlen2] at hadd
    refine hadd.mono ?_
    rintro e w3 ⟨rfl, ds', c, hl3, hd3, hrow3, hup3, hval3⟩
    have hval4 := sum_fits (a := es) (b := ds) hd' hd (by omega) (hval3.trans (by rw [val_append]; simp [val]))
    have hbel3 : Below w.heap.size w w3 := hbel2.trans (hup3.below (Nat.le_refl _))
    have hsz3 : w.heap.size < w3.heap.size := by rw [hup3.size]; exact hsz2
    clear hadd hval3
    go_wp2_with fail
    refine (trim_any _ w.heap.size 0 (es.length + 1) (es.length + 1) ds' (by omega) (by omega) (by omega) hrow3).mono ?_
    rintro e w4 ⟨rfl, rfl⟩
    go_wp2
    go_ret
    refine ⟨_, rfl, ?_, hbel3⟩
    have hfin := natV_trim (n := es.length + 1) hrow3 hd3 hsz3 hl3 (Nat.le_refl _)
    rw [hval4, Nat.add_comm (val es) (val ds)] at hfin
    exact hfin
  · go_enter Tryz.func135, Tryz.ntmps135
    go_wp2_with (first | (at_make; refine make_u32b _ rfl _ _ 60 rfl 131 i0 Tryz.underlying60 hi hz0 hz1 hz2 _ _ _ _ (ds.length + 1) rfl rfl (by simp) (by simp) (by omega) ?_; intro w1 hblk hbel1) | (refine copy_u32 rfl _ _ _ _ rfl 131 Tryz.underlying60 Tryz.size131 w.heap.size _ _ _ (List.replicate (ds.length + 1) 0) ds rfl (by simp) rfl (hu2.below hbel1) hblk.out (by simp) w.heap.size w hbel1 (Nat.le_refl _) ?_; intro w2 hblk2 hbel2))
    have hdr0 : ds ++ (List.replicate (ds.length + 1) 0).drop ds.length = ds ++ [0] := by rw [List.drop_replicate, show ds.length + 1 - ds.length = 1 by omega]; rfl
    rw [hdr0] at hblk2
    obtain ⟨hrow2, hfr2, hsz2⟩ := row_of_block hblk2.out
    have hlen2 : (ds ++ [0]).length = ds.length + 1 := by simp
    have hdig2 : Dig (ds ++ [0]) := Dig.append hd (by intro d hd; simp at hd; omega)
    have hadd := addInto_any w2 w.heap.size 0 (ds.length + 1) (ds ++ [0]) es _ (by omega) (by omega) (by omega) hrow2 (hfr2 _) hdig2 (hv2.away hbel2 w.heap.size (Nat.le_refl _)) hd'
    rw [hlen2] at hadd
    refine hadd.mono ?_
    rintro e w3 ⟨rfl, ds', c, hl3, hd3, hrow3, hup3, hval3⟩
    have hval4 := sum_fits (a := ds) (b := es) hd hd' (by omega) (hval3.trans (by rw [val_append]; simp [val]))
    have hbel3 : Below w.heap.size w w3 := hbel2.trans (hup3.below (Nat.le_refl _))
    have hsz3 : w.heap.size < w3.heap.size := by rw [hup3.size]; exact hsz2
    clear hadd hval3
    go_wp2_with fail
    refine (trim_any _ w.heap.size 0 (ds.length + 1) (ds.length + 1) ds' (by omega) (by omega) (by omega) hrow3).mono ?_
    rintro e w4 ⟨rfl, rfl⟩
    go_wp2
    go_ret
    refine ⟨_, rfl, ?_, hbel3⟩
    have hfin := natV_trim (n := ds.length + 1) hrow3 hd3 hsz3 hl3 (Nat.le_refl _)
    rw [hval4] at hfin
    exact hfin
end Go.Proofs.YtcmdglfjnepahaaGreatDoor
