/-
  What CommonDivisor of package natural does.
-/
import Derived.Test.YtcmdglfjnepahaaGreatDoorNat10
import Derived.Deep.LoopGhost
set_option linter.unusedSimpArgs false
set_option linter.unusedVariables false
namespace Go.Proofs.YtcmdglfjnepahaaGreatDoor
open Go.RowKit

set_option maxRecDepth 100000 in
set_option maxHeartbeats 1000000 in
theorem gcd_any (K : Nat) (hK : K ≤ 1073741823) (hO : OverOK K) (w : World) (u v : Value) (m n : Nat) (hu : NatV w u m) (hv : NatV w v n) (hm : m < 4294967296 ^ K) (hn : n < 4294967296 ^ K) :
    Calls Tryz.prog 84 #[u, v] w fun e w' => ∃ x, e = .returned x ∧ NatV w' x (Nat.gcd m n) ∧ Below w.heap.size w w' := by
  go_enter Tryz.func84, Tryz.ntmps84
  go_wp2
  go_loopg [0, 1] n (fun k s t wr => ∃ a, NatV wr s a ∧ NatV wr t k ∧ a < 4294967296 ^ K ∧ k < 4294967296 ^ K ∧ Hid (Nat.gcd a k = Nat.gcd m n) ∧ Below w.heap.size w wr)
  case atStart => exact ⟨m, hu, hv, hm, hn, rfl, Below.refl _ _⟩
  case round =>
    obtain ⟨a, hs, ht, ha, hk, hg, hbel⟩ := hrel
    obtain ⟨ds, hs1, hd, htop, hvs, hl⟩ := natV_u32 hs ha
    obtain ⟨es, ht1, hd', htop', hvt, hl'⟩ := natV_u32 ht hk
    have hs0 := hs
    have ht0 := ht
    obtain ⟨ao, cap, rfl, hc, hr⟩ := hs1
    obtain ⟨ao', cap', rfl, hc', hr'⟩ := ht1
    clear hr hr'
    by_cases hk0 : gk = 0
    · have hes : es = [] := htop'.zero.1 (by omega)
      subst hes
      subst hk0
      clear hvs hvt
      go_wp2
      go_ret
      refine ⟨_, rfl, ?_, hbel⟩
      rw [← hg.out, Nat.gcd_zero_right]
      exact hs0
    · have hpos : 0 < es.length := List.length_pos_iff.2 (fun e => hk0 (by rw [← hvt, e]; rfl))
      by_cases h2 : ds.length ≤ 2 ∧ es.length ≤ 2
      · obtain ⟨h2a, h2b⟩ := h2
        have ha64 : a < 18446744073709551616 := by
          have h3 := val_lt hd
          have h4 := pow_mono h2a
          rw [hvs] at h3
          exact Nat.lt_of_lt_of_le h3 h4
        have hk64 : gk < 18446744073709551616 := by
          have h3 := val_lt hd'
          have h4 := pow_mono h2b
          rw [hvt] at h3
          exact Nat.lt_of_lt_of_le h3 h4
        have hg64 : Nat.gcd a gk < 18446744073709551616 := Nat.lt_of_le_of_lt (Nat.gcd_le_right _ (by omega)) hk64
        clear hvs hvt
        go_wp2_with fail
        refine (low64_any _ _ a hs ha64).mono ?_
        rintro e w1 ⟨rfl, rfl⟩
        go_wp2_with fail
        refine (low64_any _ _ gk ht hk64).mono ?_
        rintro e w1 ⟨rfl, rfl⟩
        go_wp2_with fail
        refine (commonDivisor64_any _ a gk ha64 hk64).mono ?_
        rintro e w2 ⟨rfl, q, rfl⟩
        go_wp2_with fail
        refine (of_any _ _ hg64).mono ?_
        rintro e w2 ⟨x, rfl, hx, hbx⟩
        go_wp2
        go_ret
        refine ⟨_, rfl, ?_, hbel.trans ((below_ofDrewN hbx).mono hbel.size)⟩
        rw [← hg.out]
        exact hx
      · clear hvs hvt
        by_cases h2a : ds.length ≤ 2
        · have h2b : (2 : Int) < es.length := by omega
          go_wp2_with fail
          refine (hO _ _ _ a gk hs ht ha hk).mono ?_
          rintro e w2 ⟨x, y, rfl, hx, hy, hbx⟩
          go_wp2
          go_roundg (a % gk)
          case measure => exact Nat.mod_lt _ (by omega)
          case rel => exact ⟨gk, ht0.below hbx, hy, hk, Nat.lt_trans (Nat.mod_lt _ (by omega)) hk, by rw [Hid, ← hg.out, Nat.gcd_comm gk, ← Nat.gcd_rec, Nat.gcd_comm], hbel.trans (hbx.mono hbel.size)⟩
        · have h2b : (2 : Int) < ds.length := by omega
          go_wp2_with fail
          refine (hO _ _ _ a gk hs ht ha hk).mono ?_
          rintro e w2 ⟨x, y, rfl, hx, hy, hbx⟩
          go_wp2
          go_roundg (a % gk)
          case measure => exact Nat.mod_lt _ (by omega)
          case rel => exact ⟨gk, ht0.below hbx, hy, hk, Nat.lt_trans (Nat.mod_lt _ (by omega)) hk, by rw [Hid, ← hg.out, Nat.gcd_comm gk, ← Nat.gcd_rec, Nat.gcd_comm], hbel.trans (hbx.mono hbel.size)⟩
end Go.Proofs.YtcmdglfjnepahaaGreatDoor
