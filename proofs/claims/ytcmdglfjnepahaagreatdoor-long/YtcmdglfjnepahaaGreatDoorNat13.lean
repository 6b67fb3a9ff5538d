/-
  What shiftUp of package natural does.
-/
import Derived.Test.YtcmdglfjnepahaaGreatDoorNat12
import Derived.Test.YtcmdglfjnepahaaGreatDoorNat6
set_option linter.unusedSimpArgs false
set_option linter.unusedVariables false
namespace Go.Proofs.YtcmdglfjnepahaaGreatDoor
open Go.RowKit

theorem up_step {cur ds : List Nat} {k c S : Nat} (hk : k < cur.length) (hkd : k < ds.length) (hi : val (cur.take k) + 4294967296 ^ k * c = S * val (ds.take k)) :
    val ((cur.set k ((c + ds.getD k 0 * S) % 4294967296)).take (k + 1)) + 4294967296 ^ (k + 1) * ((c + ds.getD k 0 * S) / 4294967296) = S * val (ds.take (k + 1)) := by
  rw [val_lay _ _ _ hk, val_take_succ ds k hkd, Nat.mul_add S, ← hi, Nat.mul_add]
  have : S * (4294967296 ^ k * ds.getD k 0) = 4294967296 ^ k * (ds.getD k 0 * S) := by ac_rfl
  omega

theorem up_bd {c d S : Nat} (hc : c < S) (hd : d < 4294967296) (hS : S ≤ 2147483648) : c + d * S < 18446744073709551616 ∧ (c + d * S) / 4294967296 < S := by
  have h1 : d * S ≤ 4294967295 * S := Nat.mul_le_mul_right _ (by omega)
  constructor
  · omega
  · rw [Nat.div_lt_iff_lt_mul (by decide)]; omega

theorem u64_wrap_nat {z : Nat} (h : z < 18446744073709551616) : IntKind.u64.wrap (z : Int) = (z : Int) := by
  have e : ∀ n : Int, IntKind.u64.wrap n = n % 18446744073709551616 := fun n => by simp [IntKind.wrap, IntKind.signed, IntKind.bits]
  rw [e]; omega

set_option maxHeartbeats 2000000 in
set_option maxRecDepth 100000 in
theorem shiftUp_any (w : World) (v : Value) (ds : List Nat) (s : Nat) (hs : s ≤ 31) (hv : U32s w v ds) (hne : ds ≠ []) (hd : Dig ds) (hlen : ds.length ≤ 1073741823) :
    Calls Tryz.prog 172 #[v, .int .i64 (s : Nat)] w fun e w' => ∃ (g : Nat) (ds' : List Nat), e = .returned (.slice (some ⟨g, 0, none⟩) (ds.length + 1) (ds.length + 1)) ∧ ds'.length = ds.length + 1 ∧ Dig ds' ∧ Row w' g 0 ds' ∧ Free w' g 0 (ds.length + 1) ∧ val ds' = 2 ^ s * val ds ∧ Below w.heap.size w w' ∧ w.heap.size ≤ g ∧ g < w'.heap.size := by
  obtain ⟨ao, cap, rfl, hc, hr⟩ := hv
  obtain ⟨b, off, rfl, hb, hrow⟩ := hr hne
  have hpos : 0 < ds.length := List.length_pos_iff.2 hne
  obtain ⟨i0, hi, hz0, hz1, hz2⟩ := info_parts Tryz.info131
  have hS0 : 0 < 2 ^ s := Nat.pow_pos (by decide)
  have hS1 : 2 ^ s ≤ 2147483648 := Nat.pow_le_pow_right (n := 2) (by decide) hs
  clear hr
  go_enter Tryz.func172, Tryz.ntmps172
  go_wp2_with (at_make; refine make_u32 _ rfl _ _ 59 rfl 131 i0 Tryz.underlying59 hi hz0 hz1 hz2 _ _ _ _ (ds.length + 1) rfl rfl (by simp) (by simp) (by omega) ?_; intro w1 hrow1 hfr1 hbel1 hsz1)
  have hup1 := Upd.refl w.heap.size 0 (ds.length + 1) w1
  have hra : Row w1 b off ds := hrow.below hbel1 hb
  have hbg : b ≠ w.heap.size := by omega
  generalize hgg : w.heap.size = g at *
  have HG := hide hgg
  clear hgg hrow hi hz0 hz1 hz2
  obtain ⟨S, hS⟩ : ∃ S, 2 ^ s = S := ⟨_, rfl⟩
  rw [hS] at hS0 hS1
  have HS := hide hS
  clear hS
  go_loopw [6, 15] (fun cv i wr => ∃ (k c : Nat) (cur : List Nat), k ≤ ds.length ∧ c < S ∧ i = .int .i64 (k : Nat) ∧ cv = .int .u64 (c : Nat) ∧ Hid (cur.length = ds.length + 1) ∧ Dig cur ∧ Row wr g 0 cur ∧ Upd g 0 (ds.length + 1) w1 wr ∧
      Hid (val (cur.take k) + 4294967296 ^ k * c = S * val (ds.take k))) (fun _ i _ => ds.length - (intOf i).toNat)
  case atStart => exact ⟨0, 0, _, Nat.zero_le _, hS0, rfl, rfl, by simp [Hid], (fun d hd => by rw [List.eq_of_mem_replicate hd]; decide), hrow1, hup1, by simp [Hid, val]⟩
  case round =>
    obtain ⟨k, c, cur, hk, hcS, rfl, rfl, hcl, hcd, hcr, hup, hval⟩ := hrel
    by_cases hlt : k < ds.length
    · have hrw : Row wr b off ds := hup.other hbg hra
      have hx := hrw k hlt
      have hxl := hd.get k
      have hkc : k < cur.length := by rw [hcl.out]; omega
      have hfz : wr.frozen? ⟨g, 0 + k, none⟩ = false := hup.free hfr1 k (by omega)
      have hst := up_step hkc hlt hval.out
      have hbd := up_bd hcS hxl hS1
      have hset := hcr.setCell k ((c + ds.getD k 0 * S) % 4294967296) hkc
      have hupd := hup.setCell k (show k < ds.length + 1 by omega) (.int .u32 (((c + ds.getD k 0 * S) % 4294967296 : Nat) : Int))
      generalize ds.getD k 0 = x at *
      obtain ⟨y, hy⟩ : ∃ y, c + x * S = y := ⟨_, rfl⟩
      obtain ⟨z, hz⟩ : ∃ z, x * S = z := ⟨_, rfl⟩
      have hw : IntKind.u64.wrap ((x : Int) * 2 ^ s) = (z : Int) := by
        rw [show (x : Int) * 2 ^ s = ((x * S : Nat) : Int) by rw [← HS.out]; simp, hz]
        exact u64_wrap_nat (by omega)
      have hor : bits .or .u64 (c : Int) (z : Int) = (y : Int) := by
        rw [u64_or_nat _ _ (by omega) (by omega), Nat.or_comm, nat_join s z c (by rw [← hz, ← HS.out]; exact Nat.mul_mod_left _ _) (by rw [HS.out]; exact hcS)]
        omega
      have hcell : wr.cell? ⟨g, k, none⟩ = some (.int .u32 ((cur.getD k 0 : Nat) : Int)) := by have := hcr k hkc; rwa [Nat.zero_add] at this
      rw [hy] at hst hbd hset hupd
      simp only [Nat.zero_add] at hset hupd hfz
      have e1 : ((y % 4294967296 : Nat) : Int) = (y : Int) % 4294967296 := by omega
      have E2 : Hid (((y / 4294967296 : Nat) : Int) = (y : Int) / 4294967296) := by rw [Hid]; omega
      rw [e1] at hset hupd
      have HST := hide hst
      have hb1 := hbd.1
      have HB2 := hide hbd.2
      clear hst hbd hval hz hy e1
      go_wp2
      go_roundw
      case rel => exact ⟨k + 1, y / 4294967296, _, by omega, HB2.out, by go_num, by rw [E2.out], by rw [Hid, List.length_set, hcl.out], hcd.set _ _ (Nat.mod_lt _ (by decide)), hset, hupd, HST.out⟩
      case measure => simp [intOf]; omega
    · have hkd : k = ds.length := by omega
      have hkc : k < cur.length := by rw [hcl.out]; omega
      have hfz : wr.frozen? ⟨g, 0 + k, none⟩ = false := hup.free hfr1 k (by omega)
      have hcell : wr.cell? ⟨g, k, none⟩ = some (.int .u32 ((cur.getD k 0 : Nat) : Int)) := by have := hcr k hkc; rwa [Nat.zero_add] at this
      have hset := hcr.setCell k c hkc
      have hupd := hup.setCell k (show k < ds.length + 1 by omega) (.int .u32 (c : Int))
      simp only [Nat.zero_add] at hset hupd hfz
      have hcB : c < 4294967296 := by omega
      have hlay := val_lay cur k c hkc
      have HV : Hid (val (cur.set k c) = S * val ds) := by
        rw [Hid]
        have h1 := hval.out
        rw [hkd, List.take_length] at h1
        rw [hkd] at hlay
        rw [List.take_of_length_le (by rw [List.length_set, hcl.out]; omega), Nat.div_eq_of_lt hcB, Nat.mod_eq_of_lt hcB, Nat.mul_zero, Nat.add_zero, h1] at hlay
        rw [hkd]; exact hlay
      clear hlay hval
      subst hkd
      go_wp2
      go_ret
      exact ⟨g, _, rfl, by rw [List.length_set, hcl.out], hcd.set _ _ hcB, hset, hupd.free hfr1, by rw [HV.out, HS.out], by rw [HG.out]; exact hbel1.trans (hupd.below (Nat.le_refl _)), by rw [HG.out]; omega, by rw [hupd.size]; exact hsz1⟩
end Go.Proofs.YtcmdglfjnepahaaGreatDoor
