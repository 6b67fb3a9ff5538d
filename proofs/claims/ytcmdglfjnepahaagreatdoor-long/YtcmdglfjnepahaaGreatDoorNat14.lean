/-
  What shiftDown of package natural does.
-/
import Derived.Test.YtcmdglfjnepahaaGreatDoorNat13
set_option linter.unusedSimpArgs false
set_option linter.unusedVariables false
namespace Go.Proofs.YtcmdglfjnepahaaGreatDoor
open Go.RowKit

theorem down_num {x D S T B : Nat} (hB : B = S * T) (hS : 0 < S) (hT : 0 < T) (hx : x < B) : ((x + B * (D % B)) / S) % B + B * (D / S) = (x + B * D) / S := by
  subst hB
  have e1 : ∀ h, (x + S * T * h) / S = x / S + T * h := fun h => by
    rw [Nat.mul_assoc, Nat.add_mul_div_left _ _ hS]
  have hxt : x / S < T := (Nat.div_lt_iff_lt_mul hS).2 (by rw [Nat.mul_comm]; exact hx)
  rw [e1, e1, Nat.mul_comm S T, Nat.mod_mul]
  have e2 : (x / S + T * (D % (T * S))) % T = x / S := by rw [Nat.add_mul_mod_self_left, Nat.mod_eq_of_lt hxt]
  have e3 : (x / S + T * (D % (T * S))) / T = D % (T * S) := by rw [Nat.add_mul_div_left _ _ hT, Nat.div_eq_of_lt hxt, Nat.zero_add]
  rw [e2, e3, Nat.mod_mod_of_dvd _ (Nat.dvd_mul_left S T)]
  have e4 := Nat.mod_add_div D S
  have e5 : T * (D % S) + T * S * (D / S) = T * D := by
    rw [Nat.mul_assoc, ← Nat.mul_add, e4]
  omega

theorem down_step {cur ds : List Nat} {k S T : Nat} (hB : 4294967296 = S * T) (hS : 0 < S) (hT : 0 < T) (hk : k < cur.length) (hkd : k < ds.length) (hd : Dig ds) (hi : val (cur.drop (k + 1)) = val (ds.drop (k + 1)) / S) :
    val ((cur.set k (((ds.getD k 0 + 4294967296 * (val (ds.drop (k + 1)) % 4294967296)) / S) % 4294967296)).drop k) = val (ds.drop k) / S := by
  rw [val_drop _ k (by rw [List.length_set]; exact hk), getD_set_same _ _ _ hk, drop_set_succ, hi, val_drop ds k hkd]
  exact down_num hB hS hT (hd.get k)

set_option maxHeartbeats 1000000 in
theorem shiftDown_any (w : World) (b off cap s : Nat) (ds : List Nat) (hs : s ≤ 31) (hcap : ds.length ≤ cap) (hlen : ds.length ≤ 1073741824)
    (hrow : Row w b off ds) (hfr : Free w b off ds.length) (hd : Dig ds) :
    Calls Tryz.prog 175 #[.slice (some ⟨b, off, none⟩) ds.length cap, .int .i64 (s : Nat)] w fun e w' =>
      e = .returned (.slice (some ⟨b, off, none⟩) ds.length cap) ∧ ∃ ds', ds'.length = ds.length ∧ Dig ds' ∧ Row w' b off ds' ∧ Upd b off ds.length w w' ∧ val ds' = val ds / 2 ^ s := by
  have hS0 : 0 < 2 ^ s := Nat.pow_pos (by decide)
  have hT0 : 0 < 2 ^ (32 - s) := Nat.pow_pos (by decide)
  have hB : 4294967296 = 2 ^ s * 2 ^ (32 - s) := by rw [← Nat.pow_add, show s + (32 - s) = 32 by omega]
  obtain ⟨S, hS⟩ : ∃ S, 2 ^ s = S := ⟨_, rfl⟩
  obtain ⟨T, hT⟩ : ∃ T, 2 ^ (32 - s) = T := ⟨_, rfl⟩
  rw [hS] at hS0 hB
  rw [hT] at hT0 hB
  clear hT
  have HS := hide hS
  clear hS
  have HB := hide hB
  clear hB
  go_enter Tryz.func175, Tryz.ntmps175
  go_wp2
  go_loopw [5, 6] (fun av i wr => ∃ (k a : Nat) (cur : List Nat), k ≤ ds.length ∧ a < 18446744073709551616 ∧ i = .int .i64 ((k : Int) - 1) ∧ av = .int .u64 (a : Nat) ∧ Hid (cur.length = ds.length) ∧ Dig cur ∧ Row wr b off cur ∧ Upd b off ds.length w wr ∧
      Hid (cur.take k = ds.take k) ∧ Hid (a % 4294967296 = val (ds.drop k) % 4294967296) ∧ Hid (val (cur.drop k) = val (ds.drop k) / S)) (fun _ i _ => (intOf i + 1).toNat)
  case atStart => exact ⟨ds.length, 0, ds, Nat.le_refl _, by omega, rfl, rfl, rfl, hd, hrow, Upd.refl _ _ _ _, rfl, by simp [Hid, val], by simp [Hid, val]⟩
  case round =>
    obtain ⟨k, a, cur, hk, hal, rfl, rfl, hcl, hcd, hcr, hup, htk, hmod, hval⟩ := hrel
    cases k with
    | zero =>
      have HV := hide hval.out
      simp only [List.drop_zero] at HV
      clear hval hmod
      go_wp2
      go_ret
      exact ⟨rfl, cur, hcl.out, hcd, hcr, hup, by rw [HV.out, HS.out]⟩
    | succ k =>
      have hkc : k < cur.length := by rw [hcl.out]; omega
      have hx := hcr k hkc
      rw [getD_of_take htk.out] at hx
      have hxl := hd.get k
      have hfz : wr.frozen? ⟨b, off + k, none⟩ = false := hup.free hfr k (by omega)
      have hst := down_step HB.out hS0 hT0 hkc (show k < ds.length by omega) hd hval.out
      have hvd := val_drop ds k (by omega)
      rw [← hmod.out] at hst
      have hset := fun z => hcr.setCell k z hkc
      have hupd := fun z => hup.setCell k (show k < ds.length by omega) z
      have hh : a % 4294967296 < 4294967296 := Nat.mod_lt _ (by decide)
      have HM : Hid ((ds.getD k 0 + 4294967296 * (a % 4294967296)) % 4294967296 = val (ds.drop k) % 4294967296) := by rw [Hid, hvd, Nat.add_mul_mod_self_left, Nat.add_mul_mod_self_left]
      have hor := or_join (a % 4294967296) (ds.getD k 0) hh hxl
      have hw : IntKind.u64.wrap ((a : Int) * 4294967296) = ((a % 4294967296 : Nat) : Int) * 4294967296 := by
        have e : ∀ n : Int, IntKind.u64.wrap n = n % 18446744073709551616 := fun n => by simp [IntKind.wrap, IntKind.signed, IntKind.bits]
        rw [e]; omega
      have hyb : ds.getD k 0 + 4294967296 * (a % 4294967296) < 18446744073709551616 := by omega
      generalize ds.getD k 0 = x at *
      generalize a % 4294967296 = h at *
      generalize x + 4294967296 * h = y at *
      have hset := hset (y / S % 4294967296)
      have hupd := hupd (.int .u32 ((y / S % 4294967296 : Nat) : Int))
      have ez : ((y / S % 4294967296 : Nat) : Int) = (y : Int) / 2 ^ s % 4294967296 := by rw [← HS.out]; simp
      rw [ez] at hset hupd
      have HST := hide hst
      clear hvd hmod hval ez hst
      go_wp2
      go_roundw
      case rel => exact ⟨k, y, _, by omega, hyb, by go_num, rfl, by rw [Hid, List.length_set, hcl.out], hcd.set _ _ (Nat.mod_lt _ (by decide)), hset, hupd, by rw [Hid, take_set_le]; exact take_pred htk.out, HM, HST.out⟩
      case measure => simp [intOf]
end Go.Proofs.YtcmdglfjnepahaaGreatDoor
