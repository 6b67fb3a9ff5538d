/-
  What guessDigit of package natural does.
-/
import Derived.Test.YtcmdglfjnepahaaGreatDoorNat5
import Derived.Test.YtcmdglfjnepahaaGreatDoorNum3
set_option linter.unusedSimpArgs false
set_option linter.unusedVariables false
namespace Go.Proofs.YtcmdglfjnepahaaGreatDoor
open Go.RowKit

/-- A digit that is not too small, whatever is not above the first guess and not above each that the three highest digits fell. -/
def Least (high lead U3 V2 g : Nat) : Prop := ∀ Q, Q ≤ high / lead → (∀ k, U3 < k * V2 → Q < k) → Q < 4294967296 → Q ≤ g

theorem least_base {high lead U3 V2 g : Nat} (h : Least high lead U3 V2 g) (hg : 4294967296 ≤ g) : Least high lead U3 V2 (g - 1) := fun Q h1 h2 h3 => by omega

theorem three_eq (g lead l be Z sec : Nat) : (g * lead + l) * be + Z + g * sec = g * (lead * be + sec) + (l * be + Z) := by
  rw [Nat.mul_add, ← Nat.mul_assoc, Nat.add_mul]
  generalize g * lead * be = a
  generalize l * be = c
  generalize g * sec = d
  omega

theorem least_over {high lead Z sec U3 V2 g l : Nat} (h : Least high lead U3 V2 g) (hU : U3 = high * 4294967296 + Z) (hV : V2 = lead * 4294967296 + sec) (hgl : g * lead + l = high) (hg : l * 4294967296 + Z < g * sec) : Least high lead U3 V2 (g - 1) := by
  intro Q h1 h2 h3
  have h4 := three_eq g lead l 4294967296 Z sec
  rw [hgl, ← hU, ← hV] at h4
  have := h2 g (by omega)
  omega

theorem guess_end {high lead Z sec U3 V2 g l : Nat} (hU : U3 = high * 4294967296 + Z) (hV : V2 = lead * 4294967296 + sec) (hgl : g * lead + l = high) (hg : g * sec ≤ l * 4294967296 + Z) : g * V2 ≤ U3 := by
  have h4 := three_eq g lead l 4294967296 Z sec
  rw [hgl, ← hU, ← hV] at h4
  omega

theorem guess_wide {high lead X Y sec Z g l : Nat} (hhigh : high = Y + 4294967296 * X) (hX : X ≤ lead) (hY : Y < 4294967296) (hs : sec < 4294967296) (hgl : g * lead + l = high) (hl : 4294967296 ≤ l) : g < 4294967296 ∧ g * sec ≤ l * 4294967296 + Z := by
  have h1 : g * lead < 4294967296 * lead := by omega
  have h2 : g < 4294967296 := Nat.lt_of_mul_lt_mul_right h1
  refine ⟨h2, ?_⟩
  have h3 : g * sec ≤ 4294967296 * 4294967296 := Nat.mul_le_mul (by omega) (by omega)
  omega

theorem div_small {high lead : Nat} (hh : high < 18446744073709551616) (hl : 2147483648 ≤ lead) : high / lead ≤ 8589934592 := by
  have h1 : high / lead ≤ high / 2147483648 := Nat.div_le_div_left hl (by omega)
  omega

set_option maxHeartbeats 2000000 in
set_option maxRecDepth 100000 in
theorem guessDigit_any (w : World) (b off cap b' off' cap' t : Nat) (ds es : List Nat) (hl : ds.length = t + 3) (hl' : es.length = t + 2) (hcap : t + 3 ≤ cap) (hcap' : t + 2 ≤ cap') (ht : t ≤ 1073741800)
    (hrow : Row w b off ds) (hrow' : Row w b' off' es) (hd : Dig ds) (hd' : Dig es) (hlead : 2147483648 ≤ es.getD (t + 1) 0) (hX : ds.getD (t + 2) 0 ≤ es.getD (t + 1) 0) (high lead U3 V2 : Nat)
    (hhigh : high = ds.getD (t + 1) 0 + 4294967296 * ds.getD (t + 2) 0) (hle : lead = es.getD (t + 1) 0) (hU : U3 = high * 4294967296 + ds.getD t 0) (hV : V2 = lead * 4294967296 + es.getD t 0) :
    Calls Tryz.prog 173 #[.slice (some ⟨b, off, none⟩) (t + 3) cap, .slice (some ⟨b', off', none⟩) (t + 2) cap'] w fun e w' => ∃ g : Nat, e = .returned (.int .u32 (g : Nat)) ∧ g < 4294967296 ∧ Least high lead U3 V2 g ∧ g * V2 ≤ U3 ∧ ∃ n, w' = w.drewN n := by
  have c0 := hrow t (by omega)
  have c1 := hrow (t + 1) (by omega)
  have c2 := hrow (t + 2) (by omega)
  have d0 := hrow' t (by omega)
  have d1 := hrow' (t + 1) (by omega)
  have z0 := hd.get t
  have z1 := hd.get (t + 1)
  have z2 := hd.get (t + 2)
  have y0 := hd'.get t
  have y1 := hd'.get (t + 1)
  rw [← hle] at d1 y1 hlead hX
  clear hle hrow hrow' hd hd' hl hl'
  generalize ds.getD t 0 = Z at *
  generalize ds.getD (t + 1) 0 = Y at *
  generalize ds.getD (t + 2) 0 = X at *
  generalize es.getD t 0 = sec at *
  have hor := or_join X Y z2 z1
  have hhb : high < 18446744073709551616 := by omega
  rw [← hhigh] at hor
  have hq1 : ((high : Nat) : Int) / (lead : Int) = ((high / lead : Nat) : Int) := by simp
  have hq2 : ((high : Nat) : Int) % (lead : Int) = ((high % lead : Nat) : Int) := by simp
  have hg0 := div_small hhb hlead
  have hr0 : high % lead < lead := Nat.mod_lt _ (by omega)
  have hgl0 : high / lead * lead + high % lead = high := by have := Nat.div_add_mod high lead; rw [Nat.mul_comm] at this; exact this
  have hL0 : Least high lead U3 V2 (high / lead) := fun Q h1 _ _ => h1
  have HH := hide hhigh
  clear hhigh
  generalize hG : high / lead = G at *
  generalize hR : high % lead = R at *
  clear hG hR
  have HGL := hide hgl0
  clear hgl0
  have HL0 := hide hL0
  clear hL0
  go_enter Tryz.func173, Tryz.ntmps173
  go_wp2_with fail
  go_quiet (fail)
  go_wp2_with fail
  go_quiet (fail)
  go_wp2_with fail
  go_quiet (fail)
  go_wp2_with fail
  go_loopw [9, 10] (fun gv lv wr => ∃ g l : Nat, g ≤ 8589934592 ∧ l < 8589934592 ∧ gv = .int .u64 (g : Nat) ∧ lv = .int .u64 (l : Nat) ∧ Hid (g * lead + l = high) ∧ Hid (Least high lead U3 V2 g) ∧ ∃ n, wr = w.drewN n) (fun gv _ _ => (intOf gv).toNat)
  case atStart => exact ⟨G, R, hg0, by omega, rfl, by rw [hq2], HGL, HL0, _, (World.drewN_drewN _ _ _).trans (World.drewN_drewN _ _ _)⟩
  case round =>
    obtain ⟨g, l, hg, hl, rfl, rfl, hgl, hle, n, rfl⟩ := hrel
    by_cases h1 : l < 4294967296
    · have i1 : (l : Int) < 4294967296 := by omega
      by_cases h2 : g < 4294967296
      · have i2 : ¬ (4294967296 ≤ (g : Int)) := by omega
        have hor2 := or_join l Z h1 z0
        obtain ⟨y, hy⟩ : ∃ y, Z + 4294967296 * l = y := ⟨_, rfl⟩
        rw [hy] at hor2
        obtain ⟨hp3, hp2⟩ := mul_bd g sec h2 y0
        have hfy : ((g * sec : Nat) : Int) = (g : Int) * (sec : Int) := by simp
        by_cases h3 : y < g * sec
        · have h4 : (y : Int) < (g : Int) * (sec : Int) := by omega
          have hg1 : 1 ≤ g := by
            rcases Nat.eq_zero_or_pos g with h | h
            · subst h; omega
            · exact h
          have H5 := hide (least_over hle.out hU hV hgl.out (by omega))
          have H6 : Hid ((g - 1) * lead + (l + lead) = high) := by
            rw [Hid, ← hgl.out]
            obtain ⟨k, rfl⟩ : ∃ k, g = k + 1 := ⟨g - 1, by omega⟩
            rw [Nat.add_sub_cancel, Nat.add_mul]; omega
          have H7 := hide hU
          have H8 := hide hV
          clear hU hV h3 hfy hor hq1 hq2 hy
          go_wp2_with fail
          go_roundw
          case rel => exact ⟨g - 1, l + lead, by omega, by omega, by go_num, by go_num, H6, H5, n, rfl⟩
          case measure => simp [intOf]; omega
        · have h4 : ¬ ((y : Int) < (g : Int) * (sec : Int)) := by omega
          have H5 := hide (guess_end hU hV hgl.out (by omega))
          clear hU hV h3 hfy hor hq1 hq2 hy
          go_wp2_with fail
          go_ret
          exact ⟨g, by go_num, h2, hle.out, H5.out, n, rfl⟩
      · have h2' : 4294967296 ≤ g := by omega
        have i2 : 4294967296 ≤ (g : Int) := by omega
        have H5 := hide (least_base hle.out h2')
        have H6 : Hid ((g - 1) * lead + (l + lead) = high) := by
          rw [Hid, ← hgl.out]
          obtain ⟨k, rfl⟩ : ∃ k, g = k + 1 := ⟨g - 1, by omega⟩
          rw [Nat.add_sub_cancel, Nat.add_mul]; omega
        clear hU hV hor hq1 hq2 h2
        go_wp2_with fail
        go_roundw
        case rel => exact ⟨g - 1, l + lead, by omega, by omega, by go_num, by go_num, H6, H5, n, rfl⟩
        case measure => simp [intOf]; omega
    · obtain ⟨h2, h3⟩ := guess_wide (Z := Z) HH.out hX z1 y0 hgl.out (by omega)
      have H5 := hide (guess_end hU hV hgl.out h3)
      clear hU hV hor hq1 hq2 h3
      have i1 : ¬ ((l : Int) < 4294967296) := by omega
      go_wp2_with fail
      go_ret
      exact ⟨g, by go_num, h2, hle.out, H5.out, n, rfl⟩
end Go.Proofs.YtcmdglfjnepahaaGreatDoor
