/-
  What shortDivide of package natural does.
-/
import Derived.Test.YtcmdglfjnepahaaGreatDoorNat4
import Derived.Test.YtcmdglfjnepahaaGreatDoorNum2
set_option linter.unusedSimpArgs false
set_option linter.unusedVariables false
namespace Go.Proofs.YtcmdglfjnepahaaGreatDoor
open Go.RowKit

set_option maxHeartbeats 1000000 in
theorem shortDivide_any (w : World) (b off cap D : Nat) (ds : List Nat) (hcap : ds.length ≤ cap) (hlen : ds.length ≤ 1073741824) (hD : 0 < D) (hD2 : D < 4294967296)
    (hrow : Row w b off ds) (hfr : Free w b off ds.length) (hd : Dig ds) :
    Calls Tryz.prog 138 #[.slice (some ⟨b, off, none⟩) ds.length cap, .int .u32 (D : Nat)] w fun e w' =>
      ∃ ds' r, e = .returned (.int .u32 (r : Nat)) ∧ r < D ∧ ds'.length = ds.length ∧ Dig ds' ∧ Row w' b off ds' ∧ Upd b off ds.length w w' ∧ val ds = D * val ds' + r := by
  go_enter Tryz.func138, Tryz.ntmps138
  go_wp2
  go_loopw [5, 6] (fun lv i wr => ∃ (k r : Nat) (cur : List Nat), k ≤ ds.length ∧ r < D ∧ i = .int .i64 ((k : Int) - 1) ∧ lv = .int .u64 (r : Nat) ∧ Hid (cur.length = ds.length) ∧ Dig cur ∧ Row wr b off cur ∧ Upd b off ds.length w wr ∧
      Hid (cur.take k = ds.take k) ∧ Hid (val (ds.drop k) = D * val (cur.drop k) + r)) (fun _ i _ => (intOf i + 1).toNat)
  case atStart => exact ⟨ds.length, 0, ds, Nat.le_refl _, hD, rfl, rfl, rfl, hd, hrow, Upd.refl _ _ _ _, rfl, by simp [Hid, val]⟩
  case round =>
    obtain ⟨k, r, cur, hk, hr, rfl, rfl, hcl, hcd, hcr, hup, htk, hval⟩ := hrel
    cases k with
    | zero =>
      have HV := hide hval.out
      simp only [List.drop_zero] at HV
      clear hval
      go_wp2
      go_ret
      exact ⟨cur, r, by go_num, hr, hcl.out, hcd, hcr, hup, HV.out⟩
    | succ k =>
      have hkc : k < cur.length := by rw [hcl.out]; omega
      have hx := hcr k hkc
      rw [getD_of_take htk.out] at hx
      have hxl := hd.get k
      have hfz : wr.frozen? ⟨b, off + k, none⟩ = false := hup.free hfr k (by omega)
      have HS := hide (div_step hkc hcl.out hval.out)
      have hql := div_bd hxl hr
      have hset := hcr.setCell k ((ds.getD k 0 + 4294967296 * r) / D) hkc
      have hupd := hup.setCell k (show k < ds.length by omega) (.int .u32 (((ds.getD k 0 + 4294967296 * r) / D : Nat) : Int))
      have hor := or_join r (ds.getD k 0) (by omega) hxl
      have hml := Nat.mod_lt (ds.getD k 0 + 4294967296 * r) hD
      have hxb : ds.getD k 0 + 4294967296 * r < 18446744073709551616 := by omega
      generalize ds.getD k 0 = x at *
      have hq1 : ((x + 4294967296 * r : Nat) : Int) / (D : Int) = (((x + 4294967296 * r) / D : Nat) : Int) := by simp
      have hq2 : ((x + 4294967296 * r : Nat) : Int) % (D : Int) = (((x + 4294967296 * r) % D : Nat) : Int) := by simp
      generalize (x + 4294967296 * r) / D = q at *
      generalize (x + 4294967296 * r) % D = r' at *
      generalize x + 4294967296 * r = y at *
      clear hval
      go_wp2
      go_roundw
      case rel => exact ⟨k, r', _, by omega, hml, by go_num, by rw [hq2], by rw [Hid, List.length_set, hcl.out], hcd.set _ _ hql, hset, hupd, by rw [Hid, take_set_le]; exact take_pred htk.out, HS.out⟩
      case measure => simp [intOf]
end Go.Proofs.YtcmdglfjnepahaaGreatDoor
