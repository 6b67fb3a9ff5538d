/-
  Part 9 of the texts ahead of Cal1: Nat12, Nat13, Nat14, Num4, Nat15, Txt10.
-/
import Derived.Test.YtnhfdcfnojnofaaGreatDoorCal1Z2
import Derived.Test.YtnhfdcfnojnofaaGreatDoorCal1Z8
import Derived.Lib.BitFns
import Derived.Test.YtnhfdcfnojnofaaGreatDoorCal1Z3
import Derived.Test.YtnhfdcfnojnofaaGreatDoorShelf
set_option linter.unusedSimpArgs false
set_option linter.unusedVariables false
/-
  What guessDigit of package natural does.
-/
namespace Go.Proofs.YtnhfdcfnojnofaaGreatDoor
open Go.RowKit

/-- A digit that is not too small, whatever is not above the first guess and not above each that the three highest digits fell. -/
def Least (high lead U3 V2 g : Nat) : Prop := ∀ Q, Q ≤ high / lead → (∀ k, U3 < k * V2 → Q < k) → Q < 4294967296 → Q ≤ g

theorem least_base {high lead U3 V2 g : Nat} (h : Least high lead U3 V2 g) (hg : 4294967296 ≤ g) : Least high lead U3 V2 (g - 1) := fun Q h1 h2 h3 => by omega

theorem three_eq (g lead l be Z sec : Nat) : (g * lead + l) * be + Z + g * sec = g * (lead * be + sec) + (l * be + Z) := by
  rw [Nat.mul_add, ← Nat.mul_assoc, Nat.add_mul]
  generalize g * lead * be = a
  generalize l * be = c
  generalize g * sec = d
  omega

theorem least_over {high lead Z sec U3 V2 g l : Nat} (h : Least high lead U3 V2 g) (hU : U3 = high * 4294967296 + Z) (hV : V2 = lead * 4294967296 + sec) (hgl : g * lead + l = high) (hg : l * 4294967296 + Z < g * sec) : Least high lead U3 V2 (g - 1) := by
  intro Q h1 h2 h3
  have h4 := three_eq g lead l 4294967296 Z sec
  rw [hgl, ← hU, ← hV] at h4
  have := h2 g (by omega)
  omega

theorem guess_end {high lead Z sec U3 V2 g l : Nat} (hU : U3 = high * 4294967296 + Z) (hV : V2 = lead * 4294967296 + sec) (hgl : g * lead + l = high) (hg : g * sec ≤ l * 4294967296 + Z) : g * V2 ≤ U3 := by
  have h4 := three_eq g lead l 4294967296 Z sec
  rw [hgl, ← hU, ← hV] at h4
  omega

theorem guess_wide {high lead X Y sec Z g l : Nat} (hhigh : high = Y + 4294967296 * X) (hX : X ≤ lead) (hY : Y < 4294967296) (hs : sec < 4294967296) (hgl : g * lead + l = high) (hl : 4294967296 ≤ l) : g < 4294967296 ∧ g * sec ≤ l * 4294967296 + Z := by
  have h1 : g * lead < 4294967296 * lead := by omega
  have h2 : g < 4294967296 := Nat.lt_of_mul_lt_mul_right h1
  refine ⟨h2, ?_⟩
  have h3 : g * sec ≤ 4294967296 * 4294967296 := Nat.mul_le_mul (by omega) (by omega)
  omega

theorem div_small {high lead : Nat} (hh : high < 18446744073709551616) (hl : 2147483648 ≤ lead) : high / lead ≤ 8589934592 := by
  have h1 : high / lead ≤ high / 2147483648 := Nat.div_le_div_left hl (by omega)
  omega

set_option maxHeartbeats 2000000 in
set_option maxRecDepth 100000 in
theorem guessDigit_any (w : World) (b off cap b' off' cap' t : Nat) (ds es : List Nat) (hl : ds.length = t + 3) (hl' : es.length = t + 2) (hcap : t + 3 ≤ cap) (hcap' : t + 2 ≤ cap') (ht : t ≤ 1073741800)
    (hrow : Row w b off ds) (hrow' : Row w b' off' es) (hd : Dig ds) (hd' : Dig es) (hlead : 2147483648 ≤ es.getD (t + 1) 0) (hX : ds.getD (t + 2) 0 ≤ es.getD (t + 1) 0) (high lead U3 V2 : Nat)
    (hhigh : high = ds.getD (t + 1) 0 + 4294967296 * ds.getD (t + 2) 0) (hle : lead = es.getD (t + 1) 0) (hU : U3 = high * 4294967296 + ds.getD t 0) (hV : V2 = lead * 4294967296 + es.getD t 0) :
    Calls Tryz.prog 311 #[.slice (some ⟨b, off, none⟩) (t + 3) cap, .slice (some ⟨b', off', none⟩) (t + 2) cap'] w fun e w' => ∃ g : Nat, e = .returned (.int .u32 (g : Nat)) ∧ g < 4294967296 ∧ Least high lead U3 V2 g ∧ g * V2 ≤ U3 ∧ ∃ n, w' = w.drewN n := by
  have c0 := hrow t (by omega)
  have c1 := hrow (t + 1) (by omega)
  have c2 := hrow (t + 2) (by omega)
  have d0 := hrow' t (by omega)
  have d1 := hrow' (t + 1) (by omega)
  have z0 := hd.get t
  have z1 := hd.get (t + 1)
  have z2 := hd.get (t + 2)
  have y0 := hd'.get t
  have y1 := hd'.get (t + 1)
  rw [← hle] at d1 y1 hlead hX
  clear hle hrow hrow' hd hd' hl hl'
  generalize ds.getD t 0 = Z at *
  generalize ds.getD (t + 1) 0 = Y at *
  generalize ds.getD (t + 2) 0 = X at *
  generalize es.getD t 0 = sec at *
  have hor := or_join X Y z2 z1
  have hhb : high < 18446744073709551616 := by omega
  rw [← hhigh] at hor
  have hq1 : ((high : Nat) : Int) / (lead : Int) = ((high / lead : Nat) : Int) := by simp
  have hq2 : ((high : Nat) : Int) % (lead : Int) = ((high % lead : Nat) : Int) := by simp
  have hg0 := div_small hhb hlead
  have hr0 : high % lead < lead := Nat.mod_lt _ (by omega)
  have hgl0 : high / lead * lead + high % lead = high := by have := Nat.div_add_mod high lead; rw [Nat.mul_comm] at this; exact this
  have hL0 : Least high lead U3 V2 (high / lead) := fun Q h1 _ _ => h1
  have HH := hide hhigh
  clear hhigh
  generalize hG : high / lead = G at *
  generalize hR : high % lead = R at *
  clear hG hR
  have HGL := hide hgl0
  clear hgl0
  have HL0 := hide hL0
  clear hL0
  go_enter Tryz.func311, Tryz.ntmps311
  go_wp2_with fail
  go_quiet (fail)
  go_wp2_with fail
  go_quiet (fail)
  go_wp2_with fail
  go_quiet (fail)
  go_wp2_with fail
  go_loopw [9, 10] (fun gv lv wr => ∃ g l : Nat, g ≤ 8589934592 ∧ l < 8589934592 ∧ gv = .int .u64 (g : Nat) ∧ lv = .int .u64 (l : Nat) ∧ Hid (g * lead + l = high) ∧ Hid (Least high lead U3 V2 g) ∧ ∃ n, wr = w.drewN n) (fun gv _ _ => (intOf gv).toNat)
  case atStart => exact ⟨G, R, hg0, by omega, rfl, by rw [hq2], HGL, HL0, _, (World.drewN_drewN _ _ _).trans (World.drewN_drewN _ _ _)⟩
  case round =>
    obtain ⟨g, l, hg, hl, rfl, rfl, hgl, hle, n, rfl⟩ := hrel
    by_cases h1 : l < 4294967296
    · have i1 : (l : Int) < 4294967296 := by omega
      by_cases h2 : g < 4294967296
      · have i2 : ¬ (4294967296 ≤ (g : Int)) := by omega
        have hor2 := or_join l Z h1 z0
        obtain ⟨y, hy⟩ : ∃ y, Z + 4294967296 * l = y := ⟨_, rfl⟩
        rw [hy] at hor2
        obtain ⟨hp3, hp2⟩ := mul_bd g sec h2 y0
        have hfy : ((g * sec : Nat) : Int) = (g : Int) * (sec : Int) := by simp
        by_cases h3 : y < g * sec
        · have h4 : (y : Int) < (g : Int) * (sec : Int) := by omega
          have hg1 : 1 ≤ g := by
            rcases Nat.eq_zero_or_pos g with h | h
            · subst h; omega
            · exact h
          have H5 := hide (least_over hle.out hU hV hgl.out (by omega))
          have H6 : Hid ((g - 1) * lead + (l + lead) = high) := by
            rw [Hid, ← hgl.out]
            obtain ⟨k, rfl⟩ : ∃ k, g = k + 1 := ⟨g - 1, by omega⟩
            rw [Nat.add_sub_cancel, Nat.add_mul]; omega
          have H7 := hide hU
          have H8 := hide hV
          clear hU hV h3 hfy hor hq1 hq2 hy
          go_wp2_with fail
          go_roundw
          case rel => exact ⟨g - 1, l + lead, by omega, by omega, by go_num, by go_num, H6, H5, n, rfl⟩
          case measure => simp [intOf]; omega
        · have h4 : ¬ ((y : Int) < (g : Int) * (sec : Int)) := by omega
          have H5 := hide (guess_end hU hV hgl.out (by omega))
          clear hU hV h3 hfy hor hq1 hq2 hy
          go_wp2_with fail
          go_ret
          exact ⟨g, by go_num, h2, hle.out, H5.out, n, rfl⟩
      · have h2' : 4294967296 ≤ g := by omega
        have i2 : 4294967296 ≤ (g : Int) := by omega
        have H5 := hide (least_base hle.out h2')
        have H6 : Hid ((g - 1) * lead + (l + lead) = high) := by
          rw [Hid, ← hgl.out]
          obtain ⟨k, rfl⟩ : ∃ k, g = k + 1 := ⟨g - 1, by omega⟩
          rw [Nat.add_sub_cancel, Nat.add_mul]; omega
        clear hU hV hor hq1 hq2 h2
        go_wp2_with fail
        go_roundw
        case rel => exact ⟨g - 1, l + lead, by omega, by omega, by go_num, by go_num, H6, H5, n, rfl⟩
        case measure => simp [intOf]; omega
    · obtain ⟨h2, h3⟩ := guess_wide (Z := Z) HH.out hX z1 y0 hgl.out (by omega)
      have H5 := hide (guess_end hU hV hgl.out h3)
      clear hU hV hor hq1 hq2 h3
      have i1 : ¬ ((l : Int) < 4294967296) := by omega
      go_wp2_with fail
      go_ret
      exact ⟨g, by go_num, h2, hle.out, H5.out, n, rfl⟩
end Go.Proofs.YtnhfdcfnojnofaaGreatDoor

/-
  What shiftUp of package natural does.
-/
namespace Go.Proofs.YtnhfdcfnojnofaaGreatDoor
open Go.RowKit

theorem up_step {cur ds : List Nat} {k c S : Nat} (hk : k < cur.length) (hkd : k < ds.length) (hi : val (cur.take k) + 4294967296 ^ k * c = S * val (ds.take k)) :
    val ((cur.set k ((c + ds.getD k 0 * S) % 4294967296)).take (k + 1)) + 4294967296 ^ (k + 1) * ((c + ds.getD k 0 * S) / 4294967296) = S * val (ds.take (k + 1)) := by
  rw [val_lay _ _ _ hk, val_take_succ ds k hkd, Nat.mul_add S, ← hi, Nat.mul_add]
  have : S * (4294967296 ^ k * ds.getD k 0) = 4294967296 ^ k * (ds.getD k 0 * S) := by ac_rfl
  omega

theorem up_bd {c d S : Nat} (hc : c < S) (hd : d < 4294967296) (hS : S ≤ 2147483648) : c + d * S < 18446744073709551616 ∧ (c + d * S) / 4294967296 < S := by
  have h1 : d * S ≤ 4294967295 * S := Nat.mul_le_mul_right _ (by omega)
  constructor
  · omega
  · rw [Nat.div_lt_iff_lt_mul (by decide)]; omega

theorem u64_wrap_nat {z : Nat} (h : z < 18446744073709551616) : IntKind.u64.wrap (z : Int) = (z : Int) := by
  have e : ∀ n : Int, IntKind.u64.wrap n = n % 18446744073709551616 := fun n => by simp [IntKind.wrap, IntKind.signed, IntKind.bits]
  rw [e]; omega

set_option maxHeartbeats 2000000 in
set_option maxRecDepth 100000 in
theorem shiftUp_any (w : World) (v : Value) (ds : List Nat) (s : Nat) (hs : s ≤ 31) (hv : U32s w v ds) (hne : ds ≠ []) (hd : Dig ds) (hlen : ds.length ≤ 1073741823) :
    Calls Tryz.prog 310 #[v, .int .i64 (s : Nat)] w fun e w' => ∃ (g : Nat) (ds' : List Nat), e = .returned (.slice (some ⟨g, 0, none⟩) (ds.length + 1) (ds.length + 1)) ∧ ds'.length = ds.length + 1 ∧ Dig ds' ∧ Row w' g 0 ds' ∧ Free w' g 0 (ds.length + 1) ∧ val ds' = 2 ^ s * val ds ∧ Below w.heap.size w w' ∧ w.heap.size ≤ g ∧ g < w'.heap.size := by
  obtain ⟨ao, cap, rfl, hc, hr⟩ := hv
  obtain ⟨b, off, rfl, hb, hrow⟩ := hr hne
  have hpos : 0 < ds.length := List.length_pos_iff.2 hne
  obtain ⟨i0, hi, hz0, hz1, hz2⟩ := info_parts Tryz.info131
  have hS0 : 0 < 2 ^ s := Nat.pow_pos (by decide)
  have hS1 : 2 ^ s ≤ 2147483648 := Nat.pow_le_pow_right (n := 2) (by decide) hs
  clear hr
  go_enter Tryz.func310, Tryz.ntmps310
  go_wp2_with (at_make; refine make_u32 _ rfl _ _ 98 rfl 224 i0 Tryz.underlying98 hi hz0 hz1 hz2 _ _ _ _ (ds.length + 1) rfl rfl (by simp) (by simp) (by omega) ?_; intro w1 hrow1 hfr1 hbel1 hsz1)
  have hup1 := Upd.refl w.heap.size 0 (ds.length + 1) w1
  have hra : Row w1 b off ds := hrow.below hbel1 hb
  have hbg : b ≠ w.heap.size := by omega
  generalize hgg : w.heap.size = g at *
  have HG := hide hgg
  clear hgg hrow hi hz0 hz1 hz2
  obtain ⟨S, hS⟩ : ∃ S, 2 ^ s = S := ⟨_, rfl⟩
  rw [hS] at hS0 hS1
  have HS := hide hS
  clear hS
  go_loopw [6, 15] (fun cv i wr => ∃ (k c : Nat) (cur : List Nat), k ≤ ds.length ∧ c < S ∧ i = .int .i64 (k : Nat) ∧ cv = .int .u64 (c : Nat) ∧ Hid (cur.length = ds.length + 1) ∧ Dig cur ∧ Row wr g 0 cur ∧ Upd g 0 (ds.length + 1) w1 wr ∧
      Hid (val (cur.take k) + 4294967296 ^ k * c = S * val (ds.take k))) (fun _ i _ => ds.length - (intOf i).toNat)
  case atStart => exact ⟨0, 0, _, Nat.zero_le _, hS0, rfl, rfl, by simp [Hid], (fun d hd => by rw [List.eq_of_mem_replicate hd]; decide), hrow1, hup1, by simp [Hid, val]⟩
  case round =>
    obtain ⟨k, c, cur, hk, hcS, rfl, rfl, hcl, hcd, hcr, hup, hval⟩ := hrel
    by_cases hlt : k < ds.length
    · have hrw : Row wr b off ds := hup.other hbg hra
      have hx := hrw k hlt
      have hxl := hd.get k
      have hkc : k < cur.length := by rw [hcl.out]; omega
      have hfz : wr.frozen? ⟨g, 0 + k, none⟩ = false := hup.free hfr1 k (by omega)
      have hst := up_step hkc hlt hval.out
      have hbd := up_bd hcS hxl hS1
      have hset := hcr.setCell k ((c + ds.getD k 0 * S) % 4294967296) hkc
      have hupd := hup.setCell k (show k < ds.length + 1 by omega) (.int .u32 (((c + ds.getD k 0 * S) % 4294967296 : Nat) : Int))
      generalize ds.getD k 0 = x at *
      obtain ⟨y, hy⟩ : ∃ y, c + x * S = y := ⟨_, rfl⟩
      obtain ⟨z, hz⟩ : ∃ z, x * S = z := ⟨_, rfl⟩
      have hw : IntKind.u64.wrap ((x : Int) * 2 ^ s) = (z : Int) := by
        rw [show (x : Int) * 2 ^ s = ((x * S : Nat) : Int) by rw [← HS.out]; simp, hz]
        exact u64_wrap_nat (by omega)
      have hor : bits .or .u64 (c : Int) (z : Int) = (y : Int) := by
        rw [u64_or_nat _ _ (by omega) (by omega), Nat.or_comm, nat_join s z c (by rw [← hz, ← HS.out]; exact Nat.mul_mod_left _ _) (by rw [HS.out]; exact hcS)]
        omega
      have hcell : wr.cell? ⟨g, k, none⟩ = some (.int .u32 ((cur.getD k 0 : Nat) : Int)) := by have := hcr k hkc; rwa [Nat.zero_add] at this
      rw [hy] at hst hbd hset hupd
      simp only [Nat.zero_add] at hset hupd hfz
      have e1 : ((y % 4294967296 : Nat) : Int) = (y : Int) % 4294967296 := by omega
      have E2 : Hid (((y / 4294967296 : Nat) : Int) = (y : Int) / 4294967296) := by rw [Hid]; omega
      rw [e1] at hset hupd
      have HST := hide hst
      have hb1 := hbd.1
      have HB2 := hide hbd.2
      clear hst hbd hval hz hy e1
      go_wp2
      go_roundw
      case rel => exact ⟨k + 1, y / 4294967296, _, by omega, HB2.out, by go_num, by rw [E2.out], by rw [Hid, List.length_set, hcl.out], hcd.set _ _ (Nat.mod_lt _ (by decide)), hset, hupd, HST.out⟩
      case measure => simp [intOf]; omega
    · have hkd : k = ds.length := by omega
      have hkc : k < cur.length := by rw [hcl.out]; omega
      have hfz : wr.frozen? ⟨g, 0 + k, none⟩ = false := hup.free hfr1 k (by omega)
      have hcell : wr.cell? ⟨g, k, none⟩ = some (.int .u32 ((cur.getD k 0 : Nat) : Int)) := by have := hcr k hkc; rwa [Nat.zero_add] at this
      have hset := hcr.setCell k c hkc
      have hupd := hup.setCell k (show k < ds.length + 1 by omega) (.int .u32 (c : Int))
      simp only [Nat.zero_add] at hset hupd hfz
      have hcB : c < 4294967296 := by omega
      have hlay := val_lay cur k c hkc
      have HV : Hid (val (cur.set k c) = S * val ds) := by
        rw [Hid]
        have h1 := hval.out
        rw [hkd, List.take_length] at h1
        rw [hkd] at hlay
        rw [List.take_of_length_le (by rw [List.length_set, hcl.out]; omega), Nat.div_eq_of_lt hcB, Nat.mod_eq_of_lt hcB, Nat.mul_zero, Nat.add_zero, h1] at hlay
        rw [hkd]; exact hlay
      clear hlay hval
      subst hkd
      go_wp2
      go_ret
      exact ⟨g, _, rfl, by rw [List.length_set, hcl.out], hcd.set _ _ hcB, hset, hupd.free hfr1, by rw [HV.out, HS.out], by rw [HG.out]; exact hbel1.trans (hupd.below (Nat.le_refl _)), by rw [HG.out]; omega, by rw [hupd.size]; exact hsz1⟩
end Go.Proofs.YtnhfdcfnojnofaaGreatDoor

/-
  What shiftDown of package natural does.
-/
namespace Go.Proofs.YtnhfdcfnojnofaaGreatDoor
open Go.RowKit

theorem down_num {x D S T B : Nat} (hB : B = S * T) (hS : 0 < S) (hT : 0 < T) (hx : x < B) : ((x + B * (D % B)) / S) % B + B * (D / S) = (x + B * D) / S := by
  subst hB
  have e1 : ∀ h, (x + S * T * h) / S = x / S + T * h := fun h => by
    rw [Nat.mul_assoc, Nat.add_mul_div_left _ _ hS]
  have hxt : x / S < T := (Nat.div_lt_iff_lt_mul hS).2 (by rw [Nat.mul_comm]; exact hx)
  rw [e1, e1, Nat.mul_comm S T, Nat.mod_mul]
  have e2 : (x / S + T * (D % (T * S))) % T = x / S := by rw [Nat.add_mul_mod_self_left, Nat.mod_eq_of_lt hxt]
  have e3 : (x / S + T * (D % (T * S))) / T = D % (T * S) := by rw [Nat.add_mul_div_left _ _ hT, Nat.div_eq_of_lt hxt, Nat.zero_add]
  rw [e2, e3, Nat.mod_mod_of_dvd _ (Nat.dvd_mul_left S T)]
  have e4 := Nat.mod_add_div D S
  have e5 : T * (D % S) + T * S * (D / S) = T * D := by
    rw [Nat.mul_assoc, ← Nat.mul_add, e4]
  omega

theorem down_step {cur ds : List Nat} {k S T : Nat} (hB : 4294967296 = S * T) (hS : 0 < S) (hT : 0 < T) (hk : k < cur.length) (hkd : k < ds.length) (hd : Dig ds) (hi : val (cur.drop (k + 1)) = val (ds.drop (k + 1)) / S) :
    val ((cur.set k (((ds.getD k 0 + 4294967296 * (val (ds.drop (k + 1)) % 4294967296)) / S) % 4294967296)).drop k) = val (ds.drop k) / S := by
  rw [val_drop _ k (by rw [List.length_set]; exact hk), getD_set_same _ _ _ hk, drop_set_succ, hi, val_drop ds k hkd]
  exact down_num hB hS hT (hd.get k)

set_option maxHeartbeats 1000000 in
theorem shiftDown_any (w : World) (b off cap s : Nat) (ds : List Nat) (hs : s ≤ 31) (hcap : ds.length ≤ cap) (hlen : ds.length ≤ 1073741824)
    (hrow : Row w b off ds) (hfr : Free w b off ds.length) (hd : Dig ds) :
    Calls Tryz.prog 313 #[.slice (some ⟨b, off, none⟩) ds.length cap, .int .i64 (s : Nat)] w fun e w' =>
      e = .returned (.slice (some ⟨b, off, none⟩) ds.length cap) ∧ ∃ ds', ds'.length = ds.length ∧ Dig ds' ∧ Row w' b off ds' ∧ Upd b off ds.length w w' ∧ val ds' = val ds / 2 ^ s := by
  have hS0 : 0 < 2 ^ s := Nat.pow_pos (by decide)
  have hT0 : 0 < 2 ^ (32 - s) := Nat.pow_pos (by decide)
  have hB : 4294967296 = 2 ^ s * 2 ^ (32 - s) := by rw [← Nat.pow_add, show s + (32 - s) = 32 by omega]
  obtain ⟨S, hS⟩ : ∃ S, 2 ^ s = S := ⟨_, rfl⟩
  obtain ⟨T, hT⟩ : ∃ T, 2 ^ (32 - s) = T := ⟨_, rfl⟩
  rw [hS] at hS0 hB
  rw [hT] at hT0 hB
  clear hT
  have HS := hide hS
  clear hS
  have HB := hide hB
  clear hB
  go_enter Tryz.func313, Tryz.ntmps313
  go_wp2
  go_loopw [5, 6] (fun av i wr => ∃ (k a : Nat) (cur : List Nat), k ≤ ds.length ∧ a < 18446744073709551616 ∧ i = .int .i64 ((k : Int) - 1) ∧ av = .int .u64 (a : Nat) ∧ Hid (cur.length = ds.length) ∧ Dig cur ∧ Row wr b off cur ∧ Upd b off ds.length w wr ∧
      Hid (cur.take k = ds.take k) ∧ Hid (a % 4294967296 = val (ds.drop k) % 4294967296) ∧ Hid (val (cur.drop k) = val (ds.drop k) / S)) (fun _ i _ => (intOf i + 1).toNat)
  case atStart => exact ⟨ds.length, 0, ds, Nat.le_refl _, by omega, rfl, rfl, rfl, hd, hrow, Upd.refl _ _ _ _, rfl, by simp [Hid, val], by simp [Hid, val]⟩
  case round =>
    obtain ⟨k, a, cur, hk, hal, rfl, rfl, hcl, hcd, hcr, hup, htk, hmod, hval⟩ := hrel
    cases k with
    | zero =>
      have HV := hide hval.out
      simp only [List.drop_zero] at HV
      clear hval hmod
      go_wp2
      go_ret
      exact ⟨rfl, cur, hcl.out, hcd, hcr, hup, by rw [HV.out, HS.out]⟩
    | succ k =>
      have hkc : k < cur.length := by rw [hcl.out]; omega
      have hx := hcr k hkc
      rw [getD_of_take htk.out] at hx
      have hxl := hd.get k
      have hfz : wr.frozen? ⟨b, off + k, none⟩ = false := hup.free hfr k (by omega)
      have hst := down_step HB.out hS0 hT0 hkc (show k < ds.length by omega) hd hval.out
      have hvd := val_drop ds k (by omega)
      rw [← hmod.out] at hst
      have hset := fun z => hcr.setCell k z hkc
      have hupd := fun z => hup.setCell k (show k < ds.length by omega) z
      have hh : a % 4294967296 < 4294967296 := Nat.mod_lt _ (by decide)
      have HM : Hid ((ds.getD k 0 + 4294967296 * (a % 4294967296)) % 4294967296 = val (ds.drop k) % 4294967296) := by rw [Hid, hvd, Nat.add_mul_mod_self_left, Nat.add_mul_mod_self_left]
      have hor := or_join (a % 4294967296) (ds.getD k 0) hh hxl
      have hw : IntKind.u64.wrap ((a : Int) * 4294967296) = ((a % 4294967296 : Nat) : Int) * 4294967296 := by
        have e : ∀ n : Int, IntKind.u64.wrap n = n % 18446744073709551616 := fun n => by simp [IntKind.wrap, IntKind.signed, IntKind.bits]
        rw [e]; omega
      have hyb : ds.getD k 0 + 4294967296 * (a % 4294967296) < 18446744073709551616 := by omega
      generalize ds.getD k 0 = x at *
      generalize a % 4294967296 = h at *
      generalize x + 4294967296 * h = y at *
      have hset := hset (y / S % 4294967296)
      have hupd := hupd (.int .u32 ((y / S % 4294967296 : Nat) : Int))
      have ez : ((y / S % 4294967296 : Nat) : Int) = (y : Int) / 2 ^ s % 4294967296 := by rw [← HS.out]; simp
      rw [ez] at hset hupd
      have HST := hide hst
      clear hvd hmod hval ez hst
      go_wp2
      go_roundw
      case rel => exact ⟨k, y, _, by omega, hyb, by go_num, rfl, by rw [Hid, List.length_set, hcl.out], hcd.set _ _ (Nat.mod_lt _ (by decide)), hset, hupd, by rw [Hid, take_set_le]; exact take_pred htk.out, HM, HST.out⟩
      case measure => simp [intOf]
end Go.Proofs.YtnhfdcfnojnofaaGreatDoor

/-
  Plain numbers to the base 2^32: what stands ahead of the division of school, and what is left behind it; no program here.
-/
namespace Go.Proofs.YtnhfdcfnojnofaaGreatDoor
open Go

theorem bitLen_bd : ∀ (x : Nat), 0 < x → x < 2 ^ 64 → 1 ≤ Lib.bitLen x ∧ 2 ^ Lib.bitLen x ≤ 2 * x ∧ x < 2 ^ Lib.bitLen x := by
  intro x
  induction x using Nat.strongRecOn with
  | _ x ih =>
    intro h0 h
    rw [Lib.bitLen_half x (by omega) h]
    by_cases h1 : x / 2 = 0
    · rw [h1, show Lib.bitLen 0 = 0 by decide]
      have : x = 1 := by omega
      subst this; decide
    · obtain ⟨i1, i2, i3⟩ := ih (x / 2) (by omega) (by omega) (by omega)
      generalize Lib.bitLen (x / 2) = b at *
      rw [Nat.add_comm 1 b, Nat.pow_succ]
      omega

theorem lead_shift {x : Nat} (h0 : 0 < x) (h : x < 4294967296) : ∃ s : Nat, s ≤ 31 ∧ (32 - (Lib.bitLen x : Int)) = (s : Int) ∧ 2147483648 ≤ 2 ^ s * x ∧ 2 ^ s * (x + 1) ≤ 4294967296 := by
  obtain ⟨h1, h2, h3⟩ := bitLen_bd x h0 (by omega)
  have h4 : Lib.bitLen x ≤ 32 := by
    rcases Nat.lt_or_ge 32 (Lib.bitLen x) with h5 | h5
    · have := Nat.pow_le_pow_right (n := 2) (by decide) (show 33 ≤ Lib.bitLen x by omega)
      omega
    · exact h5
  generalize Lib.bitLen x = b at *
  obtain ⟨s, rfl⟩ : ∃ s, b = 32 - s := ⟨32 - b, by omega⟩
  have hs : s ≤ 31 := by omega
  have hp : 2 ^ s * 2 ^ (32 - s) = 4294967296 := by rw [← Nat.pow_add, show s + (32 - s) = 32 by omega]
  refine ⟨s, hs, by omega, ?_, ?_⟩
  · have : 2 ^ s * 2 ^ (32 - s) ≤ 2 ^ s * (2 * x) := Nat.mul_le_mul_left _ h2
    have e : 2 ^ s * (2 * x) = 2 * (2 ^ s * x) := by ac_rfl
    omega
  · have : 2 ^ s * (x + 1) ≤ 2 ^ s * 2 ^ (32 - s) := Nat.mul_le_mul_left _ h3
    omega

/-- The divisor, shifted: between half the next power and that power. -/
theorem by_bd {es : List Nat} {t S : Nat} (hd : Dig es) (hl : es.length = t + 2) (h1 : 2147483648 ≤ S * es.getD (t + 1) 0) (h2 : S * (es.getD (t + 1) 0 + 1) ≤ 4294967296) :
    2147483648 * 4294967296 ^ (t + 1) ≤ S * val es ∧ S * val es < 4294967296 ^ (t + 2) := by
  have e := val_take_succ es (t + 1) (by omega)
  rw [List.take_of_length_le (by omega)] at e
  have hlt := val_lt (hd.take (t + 1))
  rw [List.length_take, show min (t + 1) es.length = t + 1 by omega] at hlt
  generalize es.getD (t + 1) 0 = x at *
  generalize val (es.take (t + 1)) = r at *
  rw [e, Nat.pow_succ 4294967296 (t + 1)]
  generalize 4294967296 ^ (t + 1) = P at *
  rw [Nat.mul_add]
  have a1 : 2147483648 * P ≤ S * x * P := Nat.mul_le_mul_right _ h1
  have a2 : S * (x + 1) * P ≤ 4294967296 * P := Nat.mul_le_mul_right _ h2
  have a3 : S * (P * x) = S * x * P := by ac_rfl
  have a4 : S * (x + 1) * P = S * x * P + S * P := by rw [Nat.mul_add, Nat.mul_one, Nat.add_mul]
  have hS : 0 < S := by
    rcases Nat.eq_zero_or_pos S with h | h
    · subst h; omega
    · exact h
  have a5 : S * r < S * P := Nat.mul_lt_mul_of_pos_left hlt hS
  omega

/-- The shifted divisor's digits: as many as the divisor's, the highest with its highest bit set. -/
theorem by_digits {F : List Nat} {t v : Nat} (hd : Dig F) (ht : Top F) (hv : val F = v) (h1 : 2147483648 * 4294967296 ^ (t + 1) ≤ v) (h2 : v < 4294967296 ^ (t + 2)) :
    F.length = t + 2 ∧ 2147483648 ≤ F.getD (t + 1) 0 := by
  have hl := ht.len (k := t + 2) (by rw [hv]; exact h2)
  have hlt := val_lt hd
  have hl2 : t + 1 < F.length := by
    rcases Nat.lt_or_ge (t + 1) F.length with h | h
    · exact h
    · have := pow_mono h
      have h3 := pow_pos (t + 1)
      generalize 4294967296 ^ (t + 1) = P at *
      omega
  have hlen : F.length = t + 2 := by omega
  refine ⟨hlen, ?_⟩
  have e := val_take_succ F (t + 1) hl2
  rw [List.take_of_length_le (by omega), hv] at e
  have hr := val_lt (hd.take (t + 1))
  rw [List.length_take, show min (t + 1) F.length = t + 1 by omega] at hr
  rcases Nat.lt_or_ge (F.getD (t + 1) 0) 2147483648 with h | h
  · exfalso
    generalize F.getD (t + 1) 0 = x at *
    generalize val (F.take (t + 1)) = r at *
    generalize 4294967296 ^ (t + 1) = P at *
    have : P * x ≤ P * 2147483647 := Nat.mul_le_mul_left _ (by omega)
    omega
  · exact h

/-- What stands ahead of the first digit: the highest digits are less than the divisor. -/
theorem left_start {L : List Nat} {M t S m v : Nat} (hl : L.length = M + 1) (hM : t + 2 ≤ M) (hv : val L = S * m) (hm : m < 4294967296 ^ M) (hS : 0 < S) (hS1 : S ≤ 2147483648) (h1 : 2147483648 * 4294967296 ^ (t + 1) ≤ v) :
    val (L.drop (M - t - 1)) < v := by
  have e := val_take_drop L (M - t - 1) (by omega)
  rw [hv] at e
  have hp : 4294967296 ^ M = 4294967296 ^ (M - t - 1) * 4294967296 ^ (t + 1) := by rw [← Nat.pow_add]; congr 1; omega
  have h2 : S * m < S * 4294967296 ^ M := Nat.mul_lt_mul_of_pos_left hm hS
  rw [hp] at h2
  have h0 := pow_pos (M - t - 1)
  generalize val (L.drop (M - t - 1)) = D at *
  generalize 4294967296 ^ (M - t - 1) = P at *
  generalize 4294967296 ^ (t + 1) = R at *
  have h3 : P * D < P * (S * R) := by
    have : S * (P * R) = P * (S * R) := by ac_rfl
    omega
  have h4 := Nat.lt_of_mul_lt_mul_left h3
  have h5 : S * R ≤ 2147483648 * R := Nat.mul_le_mul_right _ hS1
  omega

/-- Behind the last digit: quotient and rest. -/
theorem left_end {S m n r q : Nat} (hS : 0 < S) (h : S * m = r + S * n * q) (hr : r < S * n) : q = m / n ∧ r / S = m % n := by
  have hn : 0 < n := by
    rcases Nat.eq_zero_or_pos n with h0 | h0
    · subst h0; omega
    · exact h0
  have hd : S ∣ r := by
    have h1 : S ∣ S * m := Nat.dvd_mul_right _ _
    have h2 : S ∣ S * n * q := Nat.dvd_trans (Nat.dvd_mul_right S n) (Nat.dvd_mul_right _ _)
    rw [h] at h1
    exact (Nat.dvd_add_left h2).1 h1
  obtain ⟨c, rfl⟩ := hd
  have h1 : m = c + n * q := by
    have : S * m = S * (c + n * q) := by rw [h, Nat.mul_add, Nat.mul_assoc]
    exact Nat.eq_of_mul_eq_mul_left hS this
  have h2 : c < n := Nat.lt_of_mul_lt_mul_left hr
  subst h1
  rw [Nat.mul_div_cancel_left _ hS, Nat.add_mul_div_left _ _ hn, Nat.div_eq_of_lt h2, Nat.zero_add, Nat.add_mul_mod_self_left, Nat.mod_eq_of_lt h2]
  exact ⟨rfl, rfl⟩

/-- The digits of a window of three more than t, and of a divisor of two more, and what guessDigit's answer is worth. -/
theorem guess_good {ds F : List Nat} {t u v g high lead U3 V2 : Nat} (hdl : ds.length = t + 3) (hFl : F.length = t + 2) (hd : Dig ds) (hF : Dig F) (hu : val ds = u) (hv : val F = v) (hlead : 2147483648 ≤ F.getD (t + 1) 0) (huv : u < v * 4294967296)
    (hhigh : high = ds.getD (t + 1) 0 + 4294967296 * ds.getD (t + 2) 0) (hle : lead = F.getD (t + 1) 0) (hU : U3 = high * 4294967296 + ds.getD t 0) (hV : V2 = lead * 4294967296 + F.getD t 0)
    (hL : ∀ Q, Q ≤ high / lead → (∀ k, U3 < k * V2 → Q < k) → Q < 4294967296 → Q ≤ g) (hg : g < 4294967296) (hg2 : g * V2 ≤ U3) : u / v ≤ g ∧ g ≤ u / v + 1 := by
  have e1 := val_take_succ F (t + 1) (by omega)
  rw [List.take_of_length_le (by omega), val_take_succ F t (by omega), hv, ← hle] at e1
  have e2 := val_take_succ ds (t + 2) (by omega)
  rw [List.take_of_length_le (by omega), val_take_succ ds (t + 1) (by omega), val_take_succ ds t (by omega), hu] at e2
  have r1 := val_lt (hF.take t)
  rw [List.length_take, show min t F.length = t by omega] at r1
  have r2 := val_lt (hd.take t)
  rw [List.length_take, show min t ds.length = t by omega] at r2
  have y0 := hd.get t
  rw [← hle] at hlead
  have p0 := pow_pos t
  rw [Nat.pow_succ] at e1 e2
  rw [show t + 2 = t + 1 + 1 by omega, Nat.pow_succ, Nat.pow_succ] at e2
  generalize 4294967296 ^ t = P at *
  generalize val (F.take t) = a at *
  generalize val (ds.take t) = c at *
  generalize ds.getD t 0 = Z at *
  generalize ds.getD (t + 1) 0 = Y at *
  generalize ds.getD (t + 2) 0 = X at *
  generalize F.getD t 0 = sec at *
  have f1 : v = a + V2 * P := by
    rw [e1, hV, Nat.add_mul]
    have : P * 4294967296 * lead = lead * 4294967296 * P := by ac_rfl
    have : P * sec = sec * P := Nat.mul_comm _ _
    omega
  have f2 : u = c + U3 * P := by
    rw [e2, hU, hhigh, Nat.add_mul, Nat.add_mul, Nat.add_mul]
    have a1 : P * 4294967296 * Y = Y * 4294967296 * P := by ac_rfl
    have a2 : P * 4294967296 * 4294967296 * X = 4294967296 * X * 4294967296 * P := by ac_rfl
    have a3 : P * Z = Z * P := Nat.mul_comm _ _
    omega
  have hv0 : 0 < v := by
    have : 2147483648 * 4294967296 ≤ V2 := by omega
    have : 1 * 1 ≤ V2 * P := Nat.mul_le_mul (by omega) p0
    omega
  have hu3 : u < (U3 + 1) * P := by rw [Nat.add_mul]; omega
  constructor
  · refine hL _ ?_ (fun k hk => guess_over (by omega) hv0 hu3 hk rfl) ((Nat.div_lt_iff_lt_mul hv0).2 (by rw [Nat.mul_comm]; exact huv))
    refine guess_start (P := 4294967296 * P) (by omega) ?_ hv0 ?_ (by omega) rfl
    · rw [f1, hV, Nat.add_mul]
      have : lead * (4294967296 * P) = lead * 4294967296 * P := by ac_rfl
      omega
    · have h1 : U3 + 1 ≤ (high + 1) * 4294967296 := by omega
      have h2 : (U3 + 1) * P ≤ (high + 1) * 4294967296 * P := Nat.mul_le_mul_right _ h1
      rw [Nat.mul_assoc] at h2
      omega
  · exact guess_under (P := P) (by rw [f1, Nat.add_mul]; omega) hv0 (by omega) hg2 (by omega) rfl

theorem top_le {ds F : List Nat} {t u v : Nat} (hdl : ds.length = t + 3) (hFl : F.length = t + 2) (hF : Dig F) (hu : val ds = u) (hv : val F = v) (huv : u < v * 4294967296) : ds.getD (t + 2) 0 ≤ F.getD (t + 1) 0 := by
  have e1 := val_take_succ F (t + 1) (by omega)
  rw [List.take_of_length_le (by omega), hv] at e1
  have e2 := val_take_succ ds (t + 2) (by omega)
  rw [List.take_of_length_le (by omega), hu] at e2
  have r1 := val_lt (hF.take (t + 1))
  rw [List.length_take, show min (t + 1) F.length = t + 1 by omega] at r1
  rw [show t + 2 = t + 1 + 1 by omega, Nat.pow_succ] at e2
  have p0 := pow_pos (t + 1)
  generalize 4294967296 ^ (t + 1) = P at *
  generalize val (F.take (t + 1)) = a at *
  generalize val (ds.take (t + 1 + 1)) = c at *
  generalize ds.getD (t + 1 + 1) 0 = X at *
  generalize F.getD (t + 1) 0 = y at *
  have h1 : 4294967296 * P * X < 4294967296 * P * (y + 1) := by
    have a1 : P * 4294967296 * X = 4294967296 * P * X := by ac_rfl
    have a2 : 4294967296 * P * (y + 1) = 4294967296 * (P * y) + 4294967296 * P := by rw [Nat.mul_add, Nat.mul_one, Nat.mul_assoc]
    omega
  have := Nat.lt_of_mul_lt_mul_left h1
  omega

theorem add_back {a c W X : Nat} (ha : a < W) (h : a + W * c = W + X) (hX : X < W) : a = X := by
  rcases Nat.lt_or_ge c 2 with h1 | h1
  · rcases Nat.eq_zero_or_pos c with h2 | h2
    · subst h2; omega
    · have : c = 1 := by omega
      subst this; omega
  · have : W * 2 ≤ W * c := Nat.mul_le_mul_left _ h1
    omega

/-- The window behind a step: right at once. -/
theorem win_right {u V g a r W : Nat} (hV : 0 < V) (h1 : u / V ≤ g) (h2 : g ≤ u / V) (ha : a < W) (h : a + g * V = u + W * r) (hu : u < W) : r = 0 ∧ u = g * V + a ∧ a < V := by
  have hq : g = u / V := Nat.le_antisymm h2 h1
  have hle := Nat.div_mul_le_self u V
  rw [← hq] at hle
  obtain ⟨hr, hw⟩ := take_right ha h hle hu
  have hlt := Nat.lt_div_mul_add hV (a := u)
  rw [← hq] at hlt
  exact ⟨hr, by omega, by omega⟩

/-- The window behind a step: one too many at first. -/
theorem win_wrong {u V g a r c b W : Nat} (hV : 0 < V) (h1 : g = u / V + 1) (ha : a < W) (h : a + g * V = u + W * r) (hu : u < W) (hVW : V < W) : 0 < r ∧ 1 ≤ g ∧ (b < W → b + W * c = a + V → u = (g - 1) * V + b ∧ b < V) := by
  have hlt := Nat.lt_div_mul_add hV (a := u)
  have hle := Nat.div_mul_le_self u V
  obtain ⟨k, hk⟩ : ∃ k, u / V = k := ⟨_, rfl⟩
  rw [hk] at hlt hle h1
  subst h1
  rw [Nat.add_mul, Nat.one_mul] at h
  obtain ⟨h3, h4⟩ := take_wrong (f := k + 1) (v := V) ha (by rw [Nat.add_mul, Nat.one_mul]; exact h) (by rw [Nat.add_mul, Nat.one_mul]; omega) (by rw [Nat.add_mul, Nat.one_mul]; omega) hVW
  rw [Nat.add_mul, Nat.one_mul] at h4
  refine ⟨h3, by omega, fun hb hbc => ?_⟩
  have h5 := add_back (c := c) (X := u - k * V) hb (by omega) (by omega)
  rw [Nat.add_sub_cancel]
  omega
end Go.Proofs.YtnhfdcfnojnofaaGreatDoor

/-
  What longDivide of package natural does.
-/
namespace Go.Proofs.YtnhfdcfnojnofaaGreatDoor
open Go.RowKit

theorem Row.keep {w w' : World} {b o off n : Nat} {ds : List Nat} (h : Row w b o ds) (hu : Upd b off n w w') (hd : o + ds.length ≤ off ∨ off + n ≤ o) : Row w' b o ds :=
  fun i hi => (hu.cell (o + i) (by omega)).trans (h i hi)

theorem Row.splice {w w' : World} {b off j : Nat} {L W : List Nat} (h : Row w b off L) (hu : Upd b (off + j) W.length w w') (hW : Row w' b (off + j) W) (hj : j + W.length ≤ L.length) : Row w' b off (splice L W j) := by
  have h1 : Row w' b off (L.take j) := (h.take j).keep hu (Or.inl (by simp; omega))
  have hl : (L.take j).length = j := by simp; omega
  refine h1.append ?_
  rw [hl]
  refine hW.append ?_
  have h2 := (h.drop (j + W.length)).keep hu (Or.inr (by omega))
  rw [show off + j + W.length = off + (j + W.length) by omega]
  exact h2

/-- What may have changed: two blocks' cells. -/
structure Two (b c : Nat) (w w' : World) : Prop where
  os : w'.os = w.os
  tape : w'.tape = w.tape
  output : w'.output = w.output
  size : w'.heap.size = w.heap.size
  block : ∀ k, k ≠ b → k ≠ c → w'.heap[k]? = w.heap[k]?
  frozen : ∀ k j, w'.frozen? ⟨k, j, none⟩ = w.frozen? ⟨k, j, none⟩

theorem Two.refl (b c : Nat) (w : World) : Two b c w w := ⟨rfl, rfl, rfl, rfl, fun _ _ _ => rfl, fun _ _ => rfl⟩
theorem Two.trans {b c : Nat} {u v w : World} (h : Two b c u v) (k : Two b c v w) : Two b c u w :=
  ⟨k.os.trans h.os, k.tape.trans h.tape, k.output.trans h.output, k.size.trans h.size, fun i h1 h2 => (k.block i h1 h2).trans (h.block i h1 h2), fun i j => (k.frozen i j).trans (h.frozen i j)⟩
theorem Upd.frozenAll {b off n : Nat} {w w' : World} (h : Upd b off n w w') (k j : Nat) : w'.frozen? ⟨k, j, none⟩ = w.frozen? ⟨k, j, none⟩ := by
  by_cases hk : k = b
  · subst hk; exact h.frozen j
  · exact World.frozen?_of_block (w := w) (h.block k hk)
theorem Upd.two {b off n : Nat} {w w' : World} (h : Upd b off n w w') (c : Nat) : Two b c w w' := ⟨h.os, h.tape, h.output, h.size, fun k h1 _ => h.block k h1, h.frozenAll⟩
theorem Upd.two' {b off n : Nat} {w w' : World} (h : Upd b off n w w') (c : Nat) : Two c b w w' := ⟨h.os, h.tape, h.output, h.size, fun k _ h1 => h.block k h1, h.frozenAll⟩
theorem Two.drewN {b c : Nat} {u w : World} (h : Two b c u w) (n : Nat) : Two b c u (w.drewN n) := ⟨h.os, h.tape, h.output, h.size, h.block, h.frozen⟩
theorem Two.row {b c k o : Nat} {w w' : World} {ds : List Nat} (h : Two b c w w') (hb : k ≠ b) (hc : k ≠ c) (hr : Row w k o ds) : Row w' k o ds :=
  fun i hi => (World.cell?_of_block (w := w) (h.block k hb hc)).trans (hr i hi)
theorem Two.free {b c k o n : Nat} {w w' : World} (h : Two b c w w') (hf : Free w k o n) : Free w' k o n := fun i hi => (h.frozen _ _).trans (hf i hi)
theorem Two.below {b c B : Nat} {w w' : World} (h : Two b c w w') (hb : B ≤ b) (hc : B ≤ c) : Below B w w' := ⟨h.os, h.tape, h.output, Nat.le_of_eq h.size.symm, fun k hk => h.block k (by omega) (by omega)⟩

set_option maxRecDepth 100000 in
set_option maxHeartbeats 2000000 in
theorem longOK_any (K : Nat) (hK : K ≤ 1073741800) : LongOK K := by
  intro w u v m n hu hv hm hnm hm2 hn1
  obtain ⟨ds, hu1, hd, ht, hvu, hl⟩ := natV_u32 hu hm
  obtain ⟨es, hv1, hd', ht', hvv, hl'⟩ := natV_u32 hv (Nat.lt_of_le_of_lt hnm hm)
  have hlt1 : 1 < es.length := Top.ge hd' (by rw [hvv]; simpa using hn1)
  obtain ⟨t, hes⟩ : ∃ t, es.length = t + 2 := ⟨es.length - 2, by omega⟩
  have hdm : es.length ≤ ds.length := by
    rcases Nat.lt_or_ge ds.length es.length with h | h
    · have := ht'.lt_of_len hd h; omega
    · exact h
  have hdne : ds ≠ [] := by intro e; rw [e, hes] at hdm; simp at hdm
  have hene : es ≠ [] := by intro e; rw [e] at hes; simp at hes
  have hx0 : es.getD (t + 1) 0 ≠ 0 := ht' (t + 1) hes
  have hxl := hd'.get (t + 1)
  obtain ⟨s, hs, hsb, hs1, hs2⟩ := lead_shift (Nat.pos_of_ne_zero hx0) hxl
  obtain ⟨hb1, hb2⟩ := by_bd hd' hes hs1 hs2
  have hS0 : 0 < 2 ^ s := Nat.pow_pos (by decide)
  have hS1 : 2 ^ s ≤ 2147483648 := Nat.pow_le_pow_right (n := 2) (by decide) hs
  rw [hvv] at hb1 hb2
  have hv2 := hv1
  have hu2 := hu1
  obtain ⟨ao', cap', rfl, hc', hr'⟩ := hv1
  obtain ⟨b', off', rfl, hbb', hrow'⟩ := hr' hene
  obtain ⟨ao, cap, rfl, hc, hr⟩ := hu1
  have hcell := hrow' (t + 1) (by omega)
  have hm' : m < 4294967296 ^ ds.length := by rw [← hvu]; exact val_lt hd
  obtain ⟨M, hM⟩ : ∃ M, ds.length = M := ⟨_, rfl⟩
  rw [hes] at hdm hlt1 hl' hv2 hc' ⊢
  rw [hM] at hdm hl hu2 hc hm' ⊢
  generalize hxx : es.getD (t + 1) 0 = x at *
  have hlz := fun W => Tryz.bits_LeadingZeros32 (x : Int) W (by omega) (by omega)
  rw [Int.toNat_natCast, hsb] at hlz
  have HB1 := hide hb1
  have HB2 := hide hb2
  have HM2 := hide hm'
  clear hr hr' hb1 hb2 hx0 hs1 hs2 hsb hm hnm hm2 hn1 ht ht' hm'
  go_enter Tryz.func226, Tryz.ntmps226
  go_wp2_with fail
  refine (hlz _).mono ?_
  rintro e w0 ⟨rfl, rfl⟩
  go_wp2_with fail
  refine (shiftUp_any _ _ ds s hs hu2 hdne hd (by omega)).mono ?_
  rintro e w1 ⟨gL, L0, rfl, hLl, hLd, hLr, hLf, hLv, hb1, hgL0, hgL1⟩
  rw [hM] at hLl hLf
  rw [hM]
  go_wp2_with fail
  refine (shiftUp_any _ _ es s hs (hv2.below hb1) hene hd' (by omega)).mono ?_
  rintro e w2 ⟨gB, E0, rfl, hEl, hEd, hEr, hEf, hEv, hb2, hgB0, hgB1⟩
  rw [hes] at hEl hEf
  rw [hes]
  go_wp2_with fail
  refine (trim_any _ _ _ _ _ E0 (by omega) (by omega) (by omega) hEr).mono ?_
  rintro e w3 ⟨rfl, rfl⟩
  have hFd := hEd.take (trimL E0 (t + 2 + 1))
  have hFt := top_trimL E0 (t + 2 + 1) (by omega)
  have hFv := val_trimL E0 (t + 2 + 1) (by omega)
  rw [List.take_of_length_le (show E0.length ≤ t + 2 + 1 by omega), hEv, hvv] at hFv
  have hFr := hEr.take (trimL E0 (t + 2 + 1))
  obtain ⟨hFl, hFlead⟩ := by_digits hFd hFt hFv HB1.out HB2.out
  have htl : trimL E0 (t + 2 + 1) = t + 2 := by
    have := trimL_le E0 (t + 2 + 1)
    rw [List.length_take] at hFl; omega
  rw [htl] at hFd hFt hFv hFr hFl hFlead
  rw [htl]
  obtain ⟨F, hF⟩ : ∃ F, E0.take (t + 2) = F := ⟨_, rfl⟩
  rw [hF] at hFd hFt hFv hFr hFl hFlead
  clear hF htl hEd hEr hEf hEv hEl hFt
  have hinit := left_start hLl (by omega) (hvu ▸ hLv) HM2.out hS0 hS1 HB1.out
  obtain ⟨i0, hi, hz0, hz1, hz2⟩ := info_parts Tryz.info131
  obtain ⟨k0, hk0⟩ : ∃ k0, M - (t + 2) + 1 = k0 := ⟨_, rfl⟩
  have hHI := hide hinit
  clear hinit
  go_wp2_with (at_make; refine make_u32 _ rfl _ _ 99 rfl 224 i0 Tryz.underlying99 hi hz0 hz1 hz2 _ _ _ _ k0 rfl rfl (by omega) (by omega) (by omega) ?_; intro w4 hQr hQf hb4 hsz4)
  have hgB : gB ≠ w3.heap.size := by omega
  have hgL : gL ≠ w3.heap.size := by have := hb2.size; omega
  have hLB : gB ≠ gL := by omega
  have hLr4 : Row w4 gL 0 L0 := (hLr.below hb2 hgL1).below hb4 (Nat.lt_of_lt_of_le hgL1 hb2.size)
  have hFr4 : Row w4 gB 0 F := hFr.below hb4 hgB1
  have hLf4 : Free w4 gL 0 (M + 1) := fun i hi => (hb4.frozen (p := ⟨gL, 0 + i, none⟩) (Nat.lt_of_lt_of_le hgL1 hb2.size)).trans ((hb2.frozen (p := ⟨gL, 0 + i, none⟩) hgL1).trans (hLf i hi))
  have hbW : Below w0.heap.size w0 w4 := hb1.trans ((hb2.trans (hb4.mono hb2.size)).mono hb1.size)
  have hgQ1 : w0.heap.size ≤ w3.heap.size := Nat.le_trans hb1.size hb2.size
  have hgB2 : gB < w4.heap.size := by omega
  obtain ⟨gQ, hgQ⟩ : ∃ gQ, w3.heap.size = gQ := ⟨_, rfl⟩
  rw [hgQ] at hQr hQf hsz4 hgB hgL hgQ1
  rw [hgQ]
  clear hi hz0 hz1 hz2 hv hv2 hbb' hrow' hu hu2 hcell hLr hFr hLf hb1 hb2 hb4 hlz hxx hd' hd hes hdne hene hgL1 hgB0 hgB1
  obtain ⟨V, hV⟩ : ∃ V, 2 ^ s * n = V := ⟨_, rfl⟩
  have HV := hide hV
  rw [hV] at hFv HB1 HB2 hHI
  clear hV
  have hVt : V < 4294967296 ^ (t + 2) := HB2.out
  have HFV := hide hFv
  clear hFv
  have HVT := hide hVt
  clear hVt
  go_loopw [9] (fun iv wr => ∃ (k : Nat) (L Q : List Nat), k ≤ k0 ∧ iv = .int .i64 ((k : Int) - 1) ∧ Hid (L.length = M + 1) ∧ Dig L ∧ Row wr gL 0 L ∧ Hid (Q.length = k0) ∧ Dig Q ∧ Row wr gQ 0 Q ∧ Two gL gQ w4 wr ∧
      Hid (val L0 = val L + V * (4294967296 ^ k * val (Q.drop k))) ∧ Hid (val (L.drop k) < V)) (fun iv _ => (intOf iv + 1).toNat)
  case atStart => exact ⟨k0, L0, List.replicate k0 0, Nat.le_refl _, rfl, hLl, hLd, hLr4, by simp [Hid], (fun d hd => by rw [List.eq_of_mem_replicate hd]; decide), hQr, Two.refl _ _ _, by rw [Hid, List.drop_of_length_le (by simp)]; simp [val], by rw [Hid, show k0 = M - t - 1 by omega]; exact hHI.out⟩
  case round =>
    obtain ⟨k, L, Q, hk, rfl, hll, hld, hlr, hql, hqd, hqr, htwo, hinv, hless⟩ := hrel
    cases k with
    | zero =>
      have hvL0 : val L0 = 2 ^ s * m := by rw [hLv, hvu]
      obtain ⟨hq1, hr1⟩ := left_end (S := 2 ^ s) (m := m) (n := n) (r := val L) (q := val Q) hS0 (by
        have := hinv.out; rw [hvL0, List.drop_zero, Nat.pow_zero, Nat.one_mul, ← HV.out] at this; exact this) (by have := hless.out; rw [List.drop_zero, ← HV.out] at this; exact this)
      have HQ1 := hide hq1
      have HR1 := hide hr1
      have hqf : Free wr gQ 0 k0 := htwo.free hQf
      have hlf : Free wr gL 0 (M + 1) := htwo.free hLf4
      have hsd := shiftDown_any wr gL 0 (M + 1) s L hs (by rw [hll.out]; omega) (by rw [hll.out]; omega) hlr (by rw [hll.out]; exact hlf) hld
      rw [hll.out] at hsd
      have hgQs : gQ < wr.heap.size := by rw [htwo.size]; exact hsz4
      clear hq1 hr1 hinv hless hvL0
      go_wp2_with fail
      refine (trim_any _ gQ 0 k0 k0 Q (Nat.le_refl _) (by omega) (by rw [hql.out]; omega) hqr).mono ?_
      rintro e w5 ⟨rfl, rfl⟩
      go_wp2_with fail
      refine hsd.mono ?_
      rintro e w6 ⟨rfl, L', hl1, hl2, hl3, hl4, hl5⟩
      go_wp2_with fail
      refine (trim_any _ gL 0 (M + 1) (M + 1) L' (Nat.le_refl _) (by omega) (by omega) hl3).mono ?_
      rintro e w7 ⟨rfl, rfl⟩
      go_wp2_with fail
      go_ret2
      have hqr6 := hl4.other (fun e => hgL e.symm) hqr
      refine ⟨_, _, rfl, ?_, ?_, ?_⟩
      · rw [← HQ1.out]; exact natV_trim hqr6 hqd (by rw [hl4.size]; exact hgQs) hql.out (Nat.le_refl _)
      · rw [← HR1.out, ← hl5]; exact natV_trim hl3 hl2 (block_of_row hl3 (by intro e; rw [e] at hl1; simp at hl1)) hl1 (Nat.le_refl _)
      · exact hbW.trans ((htwo.below hgL0 hgQ1).trans (hl4.below hgL0))
    | succ j =>
      have hjl : j + (t + 2) + 1 ≤ L.length := by rw [hll.out]; omega
      obtain ⟨hw1, hw2, hw3⟩ := window_val hld hjl hless.out HVT.out
      obtain ⟨Wd, hWd0⟩ : ∃ Wd, (L.drop j).take (t + 2 + 1) = Wd := ⟨_, rfl⟩
      have hWl : Wd.length = t + 3 := by rw [← hWd0, List.length_take, List.length_drop]; omega
      have hWr : Row wr gL j Wd := by have := (hlr.drop j).take (t + 2 + 1); rw [hWd0, Nat.zero_add] at this; exact this
      have hWd : Dig Wd := by rw [← hWd0]; exact (hld.drop j).take _
      rw [hWd0] at hw1
      have hFrw : Row wr gB 0 F := htwo.row hLB hgB hFr4
      have hX := top_le hWl hFl hFd hw1 HFV.out hw3
      have hlf : Free wr gL 0 (M + 1) := htwo.free hLf4
      have hWf : Free wr gL j (t + 3) := fun i hi => by have := hlf (j + i) (by omega); rwa [Nat.zero_add] at this
      have hgd := guessDigit_any wr gL j (M + 1 - j) gB 0 (t + 2 + 1) t Wd F hWl hFl (by omega) (by omega) (by omega) hWr hFrw hWd hFd hFlead hX _ _ _ _ rfl rfl rfl rfl
      have hgBs : gB < wr.heap.size := by rw [htwo.size]; exact hgB2
      have hqf : Free wr gQ 0 k0 := htwo.free hQf
      have hqc : wr.cell? ⟨gQ, j, none⟩ = some (.int .u32 ((Q.getD j 0 : Nat) : Int)) := by have := hqr j (by rw [hql.out]; omega); rwa [Nat.zero_add] at this
      have hqz : wr.frozen? ⟨gQ, j, none⟩ = false := by have := hqf j (by omega); rwa [Nat.zero_add] at this
      have hjk : j < k0 := by omega
      have hW1 := hide hw1
      have hW2 := hide hw2
      have hW3 := hide hw3
      have HWD0 := hide hWd0
      clear hw1 hw2 hw3 hX hWd0
      go_wp2_with fail
      rw [show j + (t + 2) + 1 - j = t + 3 by omega]
      refine hgd.mono ?_
      rintro e w5 ⟨g, rfl, hg1, hg2, hg3, nq, rfl⟩
      obtain ⟨hga, hgb⟩ := guess_good hWl hFl hWd hFd hW1.out HFV.out hFlead hW3.out rfl rfl rfl rfl hg2 hg1 hg3
      have htk := takeTimes_any (wr.drewN nq) gL j (M + 1 - j) g Wd F (.slice (some ⟨gB, 0, none⟩) (t + 2) (t + 2 + 1)) (by omega) (by omega) (by omega) hg1 hWr (by rw [hWl]; exact hWf) hWd
        ⟨_, t + 2 + 1, by rw [hFl], by omega, fun _ => ⟨gB, 0, rfl, hgBs, hLB, hFrw⟩⟩ hFd
      rw [hWl] at htk
      clear hg2 hg3 hgd
      go_wp2_with fail
      refine htk.mono ?_
      rintro e w6 ⟨W1, r, rfl, hr, hW1l, hW1d, hW1r, hup1, hv1⟩
      rw [hW1.out, HFV.out] at hv1
      have hV0 : 0 < V := by
        have := HB1.out; have := pow_pos (t + 1); generalize 4294967296 ^ (t + 1) = P at *; omega
      have hW1b := val_lt hW1d
      rw [hW1l] at hW1b
      have hub : val (L.drop j) < 4294967296 ^ (t + 3) := by
        have := val_lt hWd; rw [hW1.out, hWl] at this; exact this
      have hVb : V < 4294967296 ^ (t + 3) := Nat.lt_of_lt_of_le HVT.out (pow_mono (by omega))
      have htwo6 : Two gL gQ w4 w6 := (htwo.drewN nq).trans (hup1.two gQ)
      have hLr6 : Row w6 gL 0 (splice L W1 j) := Row.splice (w := wr.drewN nq) hlr (by rw [Nat.zero_add, hW1l]; exact hup1) (by rw [Nat.zero_add]; exact hW1r) (by rw [hW1l]; omega)
      have hqr6 : Row w6 gQ 0 Q := hup1.other (fun e => hgL e.symm) hqr
      have hFr6 : Row w6 gB 0 F := htwo6.row hLB hgB hFr4
      have hqc6 : w6.cell? ⟨gQ, j, none⟩ = some (.int .u32 ((Q.getD j 0 : Nat) : Int)) := by have := hqr6 j (by rw [hql.out]; omega); rwa [Nat.zero_add] at this
      have hqz6 : w6.frozen? ⟨gQ, j, none⟩ = false := (hup1.frozenAll gQ j).trans hqz
      have hcj : j < Q.length := by rw [hql.out]; exact hjk
      by_cases hgq : g ≤ val (L.drop j) / V
      · obtain ⟨rfl, hq1, hq2⟩ := win_right hV0 hga hgq hW1b hv1 hub
        obtain ⟨s1, s2⟩ := long_step hjl (by omega) hcj (by rw [HWD0.out]; exact hW1.out) hW2.out hq1 hinv.out
        have hset := hqr6.setCell j g hcj
        have hupq := (Upd.refl gQ 0 k0 w6).setCell j hjk (.int .u32 (g : Int))
        simp only [Nat.zero_add] at hset hupq
        have hLr7 := hupq.other hgL hLr6
        have htwo7 := htwo6.trans (hupq.two' gL)
        have S1 := hide s1
        have S2 : Hid (val ((splice L W1 j).drop j) < V) := by rw [Hid, s2]; exact hq2
        clear s1 s2 hq1 hq2 hv1 hub hVb hga hgb hgq hinv hless hW1b
        go_wp2_with fail
        go_roundw
        case rel => exact ⟨j, splice L W1 j, Q.set j g, by omega, by go_num, by rw [Hid, splice_len (by rw [hW1l]; omega), hll.out], splice_dig hld hW1d, hLr7, by rw [Hid, List.length_set, hql.out], hqd.set _ _ hg1, hset, htwo7, S1, S2⟩
        case measure => simp [intOf]
      · have hgq1 : g = val (L.drop j) / V + 1 := by omega
        obtain ⟨hr0, hg0, hwin⟩ := win_wrong (b := 0) (c := 0) hV0 hgq1 hW1b hv1 hub hVb
        have hr0i : (0 : Int) < (r : Int) := by omega
        have had := addInto_any w6 gL j (M + 1 - j) W1 F (.slice (some ⟨gB, 0, none⟩) (t + 2) (t + 2 + 1)) (by omega) (by omega) (by omega) hW1r (by rw [hW1l]; exact fun i hi => (hup1.frozenAll gL (j + i)).trans (hWf i hi)) hW1d
          ⟨_, t + 2 + 1, by rw [hFl], by omega, fun _ => ⟨gB, 0, rfl, by rw [hup1.size]; exact hgBs, hLB, hFr6⟩⟩ hFd
        rw [hW1l] at had
        have HV1 := hide hv1
        have HGQ := hide hgq1
        have HUB := hide hub
        have HVB := hide hVb
        have HWB := hide hW1b
        clear hwin hv1 hgq1 hub hVb hW1b hga hgb hgq
        go_wp2_with fail
        refine had.mono ?_
        rintro e w7 ⟨rfl, W2, c, hW2l, hW2d, hW2r, hup2, hv2⟩
        rw [HFV.out] at hv2
        have hW2b := val_lt hW2d
        rw [hW2l] at hW2b
        obtain ⟨_, _, hwin⟩ := win_wrong (b := val W2) (c := c) hV0 HGQ.out HWB.out HV1.out HUB.out HVB.out
        obtain ⟨hq1, hq2⟩ := hwin hW2b hv2
        have htwo7 : Two gL gQ w4 w7 := htwo6.trans (hup2.two gQ)
        have hup12 : Upd gL j (t + 3) (wr.drewN nq) w7 := hup1.trans hup2
        have hLr7 : Row w7 gL 0 (splice L W2 j) := Row.splice (w := wr.drewN nq) hlr (by rw [Nat.zero_add, hW2l]; exact hup12) (by rw [Nat.zero_add]; exact hW2r) (by rw [hW2l]; omega)
        have hqr7 : Row w7 gQ 0 Q := hup2.other (fun e => hgL e.symm) hqr6
        have hqc7 : w7.cell? ⟨gQ, j, none⟩ = some (.int .u32 ((Q.getD j 0 : Nat) : Int)) := by have := hqr7 j (by rw [hql.out]; omega); rwa [Nat.zero_add] at this
        have hqz7 : w7.frozen? ⟨gQ, j, none⟩ = false := (hup2.frozenAll gQ j).trans hqz6
        obtain ⟨s1, s2⟩ := long_step (q := g - 1) hjl (by omega) hcj (by rw [HWD0.out]; exact hW1.out) hW2.out hq1 hinv.out
        have hset := hqr7.setCell j (g - 1) hcj
        have hupq := (Upd.refl gQ 0 k0 w7).setCell j hjk (.int .u32 ((g - 1 : Nat) : Int))
        rw [show ((g - 1 : Nat) : Int) = (g : Int) - 1 by omega] at hset hupq
        simp only [Nat.zero_add] at hset hupq
        have hLr8 := hupq.other hgL hLr7
        have htwo8 := htwo7.trans (hupq.two' gL)
        have S1 := hide s1
        have S2 : Hid (val ((splice L W2 j).drop j) < V) := by rw [Hid, s2]; exact hq2
        clear s1 s2 hq1 hq2 hv2 hW2b hwin hinv hless HV1 HGQ HUB HVB HWB
        go_wp2_with fail
        go_roundw
        case rel => exact ⟨j, splice L W2 j, Q.set j (g - 1), by omega, by go_num, by rw [Hid, splice_len (by rw [hW2l]; omega), hll.out], splice_dig hld hW2d, hLr8, by rw [Hid, List.length_set, hql.out], hqd.set _ _ (by omega), hset, htwo8, S1, S2⟩
        case measure => simp [intOf]
end Go.Proofs.YtnhfdcfnojnofaaGreatDoor

/-
  Numbers read: a text without a stroke; what is written is read as itself.
-/
namespace Go.Proofs.YtnhfdcfnojnofaaGreatDoor
open Go.RowKit

theorem index_none (a : List UInt8) (h : ∀ c ∈ a, c ≠ 47) : Lib.index a [47] = -1 := by
  induction a with
  | nil => simp [Lib.index]
  | cons c a ih =>
    have ih := ih (fun d hd => h d (List.mem_cons_of_mem _ hd))
    have hc := h c List.mem_cons_self
    simp only [Lib.index, ih]
    have hp : ([47] : List UInt8).isPrefixOf (c :: a) = false := by
      simp [List.isPrefixOf, Ne.symm hc]
    rw [hp]
    simp

theorem cut_none (a : List UInt8) (h : ∀ c ∈ a, c ≠ 47) : Lib.cut a [47] = (a, [], false) := by
  unfold Lib.cut
  rw [index_none a h, if_neg (by omega)]

set_option maxRecDepth 100000 in
set_option maxHeartbeats 2000000 in
theorem fracParse_whole (s : ByteArray) (m : Nat) (w : World) (mx : Int) (hmx : w.cell? ⟨1, 0, none⟩ = some (.int .i64 mx)) (h1w : 1 < w.heap.size) (hm : m ≤ 1000000000) (hs : s.size < 4294967281) (a : List UInt8) (hcut : Lib.cut s.data.toList [47] = (a, [], false))
    (ha0 : 0 < (Lib.trimPrefix a [45]).length) (ha1 : (Lib.trimPrefix a [45]).length ≤ m) (ha2 : allDig (Lib.trimPrefix a [45]) = true) :
    Calls Tryz.prog 56 #[.string s, .int .i64 (m : Nat)] w fun e w' => ∃ x, e = .returned (.tuple #[x, .bool true]) ∧ FracV w' x (sg (Lib.hasPrefix a [45]) (decVal (Lib.trimPrefix a [45]))) 1 ∧ Below w.heap.size w w' := by
  have hbox : Box3 (w.alloc (.cells #[.bool false, .slice none 0 0, .slice none 0 0] 103)) w.heap.size (.bool false) (.slice none 0 0) (.slice none 0 0) := Box3.new _ _ _ _ _
  have hbW : Below w.heap.size w (w.alloc (.cells #[.bool false, .slice none 0 0, .slice none 0 0] 103)) := (Below.refl _ _).alloc (Nat.le_refl _) _
  have hmx2 : (w.alloc (.cells #[.bool false, .slice none 0 0, .slice none 0 0] 103)).cell? ⟨1, 0, none⟩ = some (.int .i64 mx) := (hbW.cell (p := ⟨1, 0, none⟩) h1w).trans hmx
  have hcp := Tryz.strings_Cut s ⟨#[47]⟩ mx (w.alloc (.cells #[.bool false, .slice none 0 0, .slice none 0 0] 103)) hs hmx2
  have e47 : (ByteArray.mk #[47]).data.toList = [47] := rfl
  rw [e47, hcut] at hcp
  have HCP := hide hcp
  have hp := fun W => wholeParse_yes ⟨a.toArray⟩ m W hm (by simpa using ha0) (by simpa using ha1) (by simpa using ha2)
  have ea : (ByteArray.mk a.toArray).data.toList = a := by simp
  rw [ea] at hp
  have HP := hide hp
  generalize sg (Lib.hasPrefix a [45]) (decVal (Lib.trimPrefix a [45])) = z at *
  clear hcp hp ea e47 hcut ha0 ha1 ha2 hmx hmx2 hs
  go_enter Tryz.func56, Tryz.ntmps56
  go_wp2_with fail
  refine HCP.out.mono ?_
  rintro e w1 ⟨rfl, q1, rfl⟩
  go_wp2_with fail
  refine (HP.out _).mono ?_
  rintro e w2 ⟨x, rfl, hx, hbx⟩
  obtain ⟨b2, a2, l2, k2, rfl, hv2, hbb2⟩ := hx.parts
  have hboxA := (hbox.drewN q1).below hbx
  have hbA : Below w.heap.size w w2 := hbW.trans ((below_ofDrewN hbx).mono hbW.size)
  have hboxB := hboxA.alloc (.cells #[.bool b2, .slice a2 l2 k2] 101)
  have hxB := hx.alloc (.cells #[.bool b2, .slice a2 l2 k2] 101)
  have hbB : Below w.heap.size w (w2.alloc (.cells #[.bool b2, .slice a2 l2 k2] 101)) := hbA.alloc hbA.size _
  clear hbx hboxA hbox hx hv2 hbW
  go_wp2_with fail
  refine (fof_any _ _ z hxB).mono ?_
  rintro e w5 ⟨y, rfl, hy, hby⟩
  obtain ⟨b3, a5, l5, k5, a6, l6, k6, rfl, hr1, hr2, hr3, hr4, hr5⟩ := hy.parts
  have hboxD := hboxB.below hby
  have hbD : Below w.heap.size w w5 := hbB.trans (hby.mono hbB.size)
  obtain ⟨c0, c1, c2, f0, f1, f2, g0⟩ := hboxD
  clear hby hboxB hxB hy
  go_wp2
  exact bodyPost_ret (v := .tuple #[.agg #[.bool b3, .slice a5 l5 k5, .slice a6 l6 k6], .bool true]) (by simp [results, Tryz.results56, go_sem, c0, c1, c2]) rfl ⟨_, rfl, fracV_boxed hr1 hr2 hr3 hr4 hr5 c0 c1 c2,
    ((hbD.setCell (by simp) _).setCell (by simp) _).setCell (by simp) _⟩

theorem overOK_ten : OverOK 10 := over_any 10 (by omega) (longOK_any 10 (by omega))

theorem ten40 {n : Nat} (h : n < 10 ^ 40) : n < 4294967296 ^ 10 := Nat.lt_trans h (by decide)

/-- What is written is read as itself. -/
theorem parseOK_text (p : Int) (q : Nat) (hq : 0 < q) (hc : Nat.gcd p.natAbs q = 1) (hp : p.natAbs < 10 ^ 40) (hqb : q < 10 ^ 40) : ParseOK ⟨(fracText p q).toArray⟩ p q := by
  rintro W ⟨_, mx, h1, h2⟩
  have hl1 := dec_len_le 40 _ hp (by omega)
  have hl2 := dec_len_le 40 _ hqb (by omega)
  have hl3 := dec_pos p.natAbs
  have hl4 := dec_pos q
  have ht := trim_itoa p
  have hl5 : (Lib.itoa p).length ≤ 41 := by
    unfold Lib.itoa
    split
    · simp; omega
    · rw [show p.toNat = p.natAbs by omega]; omega
  by_cases h : q = 1
  · subst h
    rw [fracText, if_pos rfl]
    have hd : (ByteArray.mk (Lib.itoa p).toArray).data.toList = Lib.itoa p := by simp
    refine (fracParse_whole ⟨(Lib.itoa p).toArray⟩ 40 W mx h1 h2 (by omega) (by rw [size_mk]; omega) (Lib.itoa p) (by rw [hd]; exact cut_none _ (itoa_ne p)) (by rw [ht.1]; omega) (by rw [ht.1]; omega) (by rw [ht.1]; exact dec_all _)).mono ?_
    rintro e w' ⟨x, rfl, hx, hb⟩
    rw [ht.1, ht.2, dec_val, sg_self] at hx
    exact ⟨x, rfl, hx, hb⟩
  · rw [fracText, if_neg h]
    have hd : (ByteArray.mk (Lib.itoa p ++ ([47] ++ Lib.decDigits q)).toArray).data.toList = Lib.itoa p ++ 47 :: Lib.decDigits q := by simp
    obtain ⟨K, hK, hO, hz, hn⟩ : ∃ K, K ≤ 1073741822 ∧ OverOK K ∧ p.natAbs < 4294967296 ^ K ∧ q < 4294967296 ^ K := ⟨10, by omega, overOK_ten, ten40 hp, ten40 hqb⟩
    have hq0 : q ≠ 0 := by omega
    have hsz : (ByteArray.mk (Lib.itoa p ++ ([47] ++ Lib.decDigits q)).toArray).size < 4294967281 := by rw [size_mk]; simp; omega
    clear hp hqb
    have c1 : Lib.cut (ByteArray.mk (Lib.itoa p ++ ([47] ++ Lib.decDigits q)).toArray).data.toList [47] = (Lib.itoa p, Lib.decDigits q, true) := by rw [hd]; exact cut_at _ _ (itoa_ne p)
    have c2 : 0 < (Lib.trimPrefix (Lib.itoa p) [45]).length := by rw [ht.1]; exact hl3
    have c3 : (Lib.trimPrefix (Lib.itoa p) [45]).length ≤ 40 := by rw [ht.1]; exact hl1
    have c4 : allDig (Lib.trimPrefix (Lib.itoa p) [45]) = true := by rw [ht.1]; exact dec_all _
    have c5 : decVal (Lib.decDigits q) ≠ 0 := by rw [dec_val]; exact hq0
    have c6 : decVal (Lib.trimPrefix (Lib.itoa p) [45]) < 4294967296 ^ K := by rw [ht.1, dec_val]; exact hz
    have c7 : decVal (Lib.decDigits q) < 4294967296 ^ K := by rw [dec_val]; exact hn
    have c8 := dec_all q
    have c9 := fracParse_frac K hK hO ⟨(Lib.itoa p ++ ([47] ++ Lib.decDigits q)).toArray⟩ 40 W mx h1 h2 (by omega) hsz (Lib.itoa p) (Lib.decDigits q) c1 c2 c3 c4 hl4 hl2 c8 c5 c6 c7
    refine c9.mono ?_
    rintro e w' ⟨x, z, hz, rfl, hx, hbw⟩
    rw [ht.1, ht.2, dec_val, sg_self] at hz
    subst hz
    rw [dec_val, hc] at hx
    simp only [Int.natCast_one, Int.ediv_one, Nat.div_one] at hx
    exact ⟨x, rfl, hx, hbw⟩
end Go.Proofs.YtnhfdcfnojnofaaGreatDoor
