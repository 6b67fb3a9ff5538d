/-
  What the keeper's lowest does.
-/
import Derived.Test.YtcmdglfjnepahaaGreatDoorKee1
set_option linter.unusedSimpArgs false
set_option linter.unusedVariables false
namespace Go.Proofs.YtcmdglfjnepahaaGreatDoor
open Go.RowKit

/-- A fraction as it is written: in lowest terms. -/
def lowText (a : Int) (b : Nat) : List UInt8 :=
  if b / Nat.gcd a.natAbs b = 1 then Lib.itoa (a / (Nat.gcd a.natAbs b : Int)) else overText (a / (Nat.gcd a.natAbs b : Int)) (b / Nat.gcd a.natAbs b : Nat)

theorem tdiv_dvd {a : Int} {g : Nat} (hg : g ∣ a.natAbs) : Int.tdiv a (g : Int) = a / (g : Int) := by
  have h : (g : Int) ∣ a := Int.ofNat_dvd_left.2 hg
  rw [Int.tdiv_eq_ediv_of_dvd h]

theorem tdiv_abs {a : Int} {g : Nat} : (Int.tdiv a (g : Int)).natAbs ≤ a.natAbs := by
  rw [Int.natAbs_tdiv]; exact Nat.div_le_self _ _

set_option maxHeartbeats 1000000 in
set_option maxRecDepth 100000 in
theorem lowest_any (a : Int) (b : Nat) (ha : a.natAbs < 4611686018427387904) (hb0 : 0 < b) (hb : b < 4611686018427387904) (w : World) (htab : Lib.TabIs Tryz.prog w "internal/strconv.uint64pow10" .u64 Lib.pow10Tab) :
    Calls Tryz.prog 10 #[.int .i64 a, .int .i64 (b : Nat)] w fun e w' => e = .returned (.string ⟨(lowText a b).toArray⟩) ∧ Below w.heap.size w w' := by
  have hgp : 0 < Nat.gcd a.natAbs b := Nat.gcd_pos_of_pos_right _ hb0
  have hgle : Nat.gcd a.natAbs b ≤ b := Nat.le_of_dvd hb0 (Nat.gcd_dvd_right _ _)
  have hA1 := tdiv_abs (a := a) (g := Nat.gcd a.natAbs b)
  have hA2 : Hid (Int.tdiv a (Nat.gcd a.natAbs b : Int) = a / (Nat.gcd a.natAbs b : Int)) := tdiv_dvd (Nat.gcd_dvd_left _ _)
  have hLT : Hid (lowText a b = if b / Nat.gcd a.natAbs b = 1 then Lib.itoa (Int.tdiv a (Nat.gcd a.natAbs b : Int)) else overText (Int.tdiv a (Nat.gcd a.natAbs b : Int)) (b / Nat.gcd a.natAbs b : Nat)) := by
    rw [Hid, hA2.out]; rfl
  clear hA2
  have hB1 : b / Nat.gcd a.natAbs b ≤ b := Nat.div_le_self _ _
  have HG : Hid (Nat.gcd a.natAbs b = Nat.gcd a.natAbs b) := rfl
  generalize hgg : Nat.gcd a.natAbs b = g at hgp hgle hA1 hB1 hLT
  rw [hgg] at HG
  have HGG := hide hgg
  clear hgg HG
  generalize lowText a b = LT at *
  by_cases hneg : a < 0
  · go_enter Tryz.func10, Tryz.ntmps10
    go_wp2_with fail
    go_loopw [5, 6] (fun u v wr => ∃ x y : Nat, x < 4611686018427387904 ∧ y < 4611686018427387904 ∧ u = .int .i64 (x : Nat) ∧ v = .int .i64 (y : Nat) ∧ Hid (Nat.gcd x y = g) ∧ ∃ n, wr = w.drewN n) (fun _ v _ => (intOf v).toNat)
    case atStart => exact ⟨a.natAbs, b, ha, hb, by congr 1; omega, rfl, HGG, 0, rfl⟩
    case round =>
      obtain ⟨x, y, hx, hy, rfl, rfl, hg, n, rfl⟩ := hrel
      by_cases h0 : 0 < y
      · go_wp2
        go_region
        all_goals go_wp2
        go_roundw
        case rel => exact ⟨y, x % y, hy, Nat.lt_trans (Nat.mod_lt _ h0) hy, rfl, by go_num, by rw [Hid, ← hg.out, Nat.gcd_comm y (x % y), ← Nat.gcd_rec, Nat.gcd_comm], n + 1, rfl⟩
        case measure => have := Nat.mod_lt x h0; simp [intOf]; omega
      · have : y = 0 := by omega
        subst this
        have hxg : x = g := by have := hg.out; rwa [Nat.gcd_zero_right] at this
        subst hxg
        have hC : ((b / x : Nat) : Int) = (b : Int) / (x : Int) := Int.natCast_ediv _ _
        have hD0 : 0 ≤ (b : Int) / (x : Int) := by rw [← hC]; exact Int.natCast_nonneg _
        have hD1 : (b : Int) / (x : Int) < 4611686018427387904 := by omega
        rw [hC] at hLT
        have hC1 : b / x = 1 ↔ (b : Int) / (x : Int) = 1 := by omega
        simp only [hC1] at hLT
        clear hC hC1
        by_cases h1 : (b : Int) / (x : Int) = 1
        · rw [if_pos h1] at hLT
          go_wp2_with fail
          refine (num_any _ (by omega) (by omega) _ (tabIs_below htab (below_drewN (Below.refl _ _) n))).mono ?_
          rintro e wB ⟨rfl, hbB⟩
          go_wp2
          go_ret
          exact ⟨by rw [hLT.out]; rfl, ⟨hbB.os, hbB.tape, hbB.output, hbB.size, hbB.block⟩⟩
        · rw [if_neg h1] at hLT
          have hW : Hid (wrap64 ((b : Int) / (x : Int)) = (b : Int) / (x : Int)) := Go.IntWalk.wrap64_in _ (by omega)
          have H1 : ∀ _u : Unit, ¬ (b : Int) / (x : Int) = 1 := fun _ => h1
          have HD0 : ∀ _u : Unit, 0 ≤ (b : Int) / (x : Int) := fun _ => hD0
          have HD1 : ∀ _u : Unit, (b : Int) / (x : Int) < 4611686018427387904 := fun _ => hD1
          clear h1 hD0 hD1
          go_wp2_with fail
          case' _ => exact absurd (show (wrap64 ((b : Int) / (x : Int)) == 1) = true by assumption) (by rw [hW.out]; simpa using H1 ())
          have h1 := H1 ()
          have hD0 := HD0 ()
          have hD1 := HD1 ()
          rw [hW.out]
          refine (keepOver_any _ _ (by omega) (by omega) (by omega) (by omega) _ (tabIs_below htab (below_drewN (Below.refl _ _) n))).mono ?_
          rintro e wB ⟨rfl, hbB⟩
          go_wp2
          go_ret
          exact ⟨by rw [hLT.out]; rfl, ⟨hbB.os, hbB.tape, hbB.output, hbB.size, hbB.block⟩⟩
  · go_enter Tryz.func10, Tryz.ntmps10
    go_wp2_with fail
    go_loopw [5, 6] (fun u v wr => ∃ x y : Nat, x < 4611686018427387904 ∧ y < 4611686018427387904 ∧ u = .int .i64 (x : Nat) ∧ v = .int .i64 (y : Nat) ∧ Hid (Nat.gcd x y = g) ∧ ∃ n, wr = w.drewN n) (fun _ v _ => (intOf v).toNat)
    case atStart => exact ⟨a.natAbs, b, ha, hb, by congr 1; omega, rfl, HGG, 0, rfl⟩
    case round =>
      obtain ⟨x, y, hx, hy, rfl, rfl, hg, n, rfl⟩ := hrel
      by_cases h0 : 0 < y
      · go_wp2
        go_region
        all_goals go_wp2
        go_roundw
        case rel => exact ⟨y, x % y, hy, Nat.lt_trans (Nat.mod_lt _ h0) hy, rfl, by go_num, by rw [Hid, ← hg.out, Nat.gcd_comm y (x % y), ← Nat.gcd_rec, Nat.gcd_comm], n + 1, rfl⟩
        case measure => have := Nat.mod_lt x h0; simp [intOf]; omega
      · have : y = 0 := by omega
        subst this
        have hxg : x = g := by have := hg.out; rwa [Nat.gcd_zero_right] at this
        subst hxg
        have hC : ((b / x : Nat) : Int) = (b : Int) / (x : Int) := Int.natCast_ediv _ _
        have hD0 : 0 ≤ (b : Int) / (x : Int) := by rw [← hC]; exact Int.natCast_nonneg _
        have hD1 : (b : Int) / (x : Int) < 4611686018427387904 := by omega
        rw [hC] at hLT
        have hC1 : b / x = 1 ↔ (b : Int) / (x : Int) = 1 := by omega
        simp only [hC1] at hLT
        clear hC hC1
        by_cases h1 : (b : Int) / (x : Int) = 1
        · rw [if_pos h1] at hLT
          go_wp2_with fail
          refine (num_any _ (by omega) (by omega) _ (tabIs_below htab (below_drewN (Below.refl _ _) n))).mono ?_
          rintro e wB ⟨rfl, hbB⟩
          go_wp2
          go_ret
          exact ⟨by rw [hLT.out]; rfl, ⟨hbB.os, hbB.tape, hbB.output, hbB.size, hbB.block⟩⟩
        · rw [if_neg h1] at hLT
          have hW : Hid (wrap64 ((b : Int) / (x : Int)) = (b : Int) / (x : Int)) := Go.IntWalk.wrap64_in _ (by omega)
          have H1 : ∀ _u : Unit, ¬ (b : Int) / (x : Int) = 1 := fun _ => h1
          have HD0 : ∀ _u : Unit, 0 ≤ (b : Int) / (x : Int) := fun _ => hD0
          have HD1 : ∀ _u : Unit, (b : Int) / (x : Int) < 4611686018427387904 := fun _ => hD1
          clear h1 hD0 hD1
          go_wp2_with fail
          case' _ => exact absurd (show (wrap64 ((b : Int) / (x : Int)) == 1) = true by assumption) (by rw [hW.out]; simpa using H1 ())
          have h1 := H1 ()
          have hD0 := HD0 ()
          have hD1 := HD1 ()
          rw [hW.out]
          refine (keepOver_any _ _ (by omega) (by omega) (by omega) (by omega) _ (tabIs_below htab (below_drewN (Below.refl _ _) n))).mono ?_
          rintro e wB ⟨rfl, hbB⟩
          go_wp2
          go_ret
          exact ⟨by rw [hLT.out]; rfl, ⟨hbB.os, hbB.tape, hbB.output, hbB.size, hbB.block⟩⟩
end Go.Proofs.YtcmdglfjnepahaaGreatDoor
