/-
  What Compare of package natural does.
-/
import Derived.Test.YtcmdglfjnepahaaGreatDoorNat1
set_option linter.unusedSimpArgs false
set_option linter.unusedVariables false
namespace Go.Proofs.YtcmdglfjnepahaaGreatDoor
open Go.RowKit

set_option maxHeartbeats 400000 in
theorem cmpInt_any (w : World) (a b : Nat) (ha : a ≤ 140737488355328) (hb : b ≤ 140737488355328) :
    Calls Tryz.prog 169 #[.int .i64 (a : Nat), .int .i64 (b : Nat)] w fun e w' => e = .returned (.int .i64 (cmpI a b)) ∧ w' = w := by
  rcases Nat.lt_trichotomy a b with h | h | h
  · rw [cmpI_lt h]
    go_enter Tryz.func169, Tryz.ntmps169
    go_wp2
    go_ret
    exact ⟨rfl, rfl⟩
  · rw [cmpI_eq h]
    subst h
    go_enter Tryz.func169, Tryz.ntmps169
    go_wp2
    go_ret
    exact ⟨rfl, rfl⟩
  · rw [cmpI_gt h]
    go_enter Tryz.func169, Tryz.ntmps169
    go_wp2
    go_ret
    exact ⟨rfl, rfl⟩

set_option maxHeartbeats 400000 in
theorem cmpU32_any (w : World) (a b : Nat) (ha : a < 4294967296) (hb : b < 4294967296) :
    Calls Tryz.prog 170 #[.int .u32 (a : Nat), .int .u32 (b : Nat)] w fun e w' => e = .returned (.int .i64 (cmpI a b)) ∧ w' = w := by
  rcases Nat.lt_trichotomy a b with h | h | h
  · rw [cmpI_lt h]
    go_enter Tryz.func170, Tryz.ntmps170
    go_wp2
    go_ret
    exact ⟨rfl, rfl⟩
  · rw [cmpI_eq h]
    subst h
    go_enter Tryz.func170, Tryz.ntmps170
    go_wp2
    go_ret
    exact ⟨rfl, rfl⟩
  · rw [cmpI_gt h]
    go_enter Tryz.func170, Tryz.ntmps170
    go_wp2
    go_ret
    exact ⟨rfl, rfl⟩

set_option maxHeartbeats 800000 in
theorem compare_any (w : World) (u v : Value) (m n K : Nat) (hu : NatV w u m) (hv : NatV w v n) (hm : m < 4294967296 ^ K) (hn : n < 4294967296 ^ K) (hK : K ≤ 1073741824) :
    Calls Tryz.prog 136 #[u, v] w fun e w' => e = .returned (.int .i64 (cmpI m n)) ∧ ∃ q, w' = w.drewN q := by
  obtain ⟨ds, ⟨ao, cap, rfl, hc, hr⟩, hd, ht, rfl⟩ := hu
  obtain ⟨es, ⟨ao', cap', rfl, hc', hr'⟩, hd', ht', rfl⟩ := hv
  have hl := ht.len hm
  have hl' := ht'.len hn
  by_cases he : ds.length = es.length
  · have he2 : ((ds.length : Int) != (es.length : Int)) = false := by rw [bne_eq_false_iff_eq]; omega
    have HE : Hid (ds.length = es.length) := he
    clear hm hn ht ht' he
    go_enter Tryz.func136, Tryz.ntmps136
    go_wp2
    go_loopw [5] (fun i wr => ∃ k : Nat, k ≤ ds.length ∧ i = .int .i64 ((k : Int) - 1) ∧ Hid (ds.drop k = es.drop k) ∧ ∃ q, wr = w.drewN q) (fun i _ => (intOf i + 1).toNat)
    case atStart => exact ⟨ds.length, Nat.le_refl _, rfl, by rw [Hid, List.drop_of_length_le (Nat.le_refl _), List.drop_of_length_le (by rw [HE.out]; exact Nat.le_refl _)], 0, rfl⟩
    case round =>
      obtain ⟨k, hk, rfl, hdr, q, rfl⟩ := hrel
      cases k with
      | zero =>
        go_wp2
        go_ret
        refine ⟨ret_int ?_, q, rfl⟩
        rw [cmpI_eq (by rw [← List.drop_zero (l := ds), hdr.out, List.drop_zero])]
      | succ k =>
        obtain ⟨b, off, rfl, hb, hrow⟩ := hr (by intro e; simp [e] at hk)
        obtain ⟨b', off', rfl, hb', hrow'⟩ := hr' (by intro e; rw [Hid, e] at HE; simp at HE; simp [HE] at hk)
        have hkk : k < es.length := by have := HE.out; omega
        have hck := hrow k (by omega)
        have hck' := hrow' k hkk
        have hdk := hd.get k
        have hdk' := hd'.get k
        have hi1 : (0 : Int) ≤ (k : Int) := by omega
        have hi2 : ((k : Int)).toNat = k := by omega
        have hi3 : (k : Int) < (ds.length : Int) := by omega
        have hi4 : (k : Int) < (es.length : Int) := by omega
        have hlt1 := fun h => val_lt_at hd HE.out k (by omega) hdr.out h
        have hlt2 := fun h => val_lt_at hd' HE.out.symm k (by omega) hdr.out.symm h
        have heq := fun h => drop_eq_of HE.out k (by omega) hdr.out h
        have H1 : Hid (ds.getD k 0 < es.getD k 0 → val ds < val es) := hlt1
        have H2 : Hid (es.getD k 0 < ds.getD k 0 → val es < val ds) := hlt2
        have H3 : Hid (ds.getD k 0 = es.getD k 0 → ds.drop k = es.drop k) := heq
        clear hlt1 hlt2 heq hr hr' hrow hrow'
        generalize ds.getD k 0 = x at *
        generalize es.getD k 0 = y at *
        by_cases hxy : x = y
        · have HS := H3.out hxy
          have H4 : Hid (ds.drop k = es.drop k) := HS
          have hne : ((x : Int) != (y : Int)) = false := by rw [bne_eq_false_iff_eq]; omega
          clear HS H1 H2 H3 hxy
          go_wp2
          go_region
          all_goals go_wp2
          go_roundw
          case rel => exact ⟨k, by omega, by go_num, H4, q + 1, rfl⟩
          case measure => simp [intOf]
        · have hne : ((x : Int) != (y : Int)) = true := by rw [bne_iff_ne]; omega
          have HC : Hid (cmpI x y = cmpI (val ds) (val es)) := by
            rcases Nat.lt_or_gt_of_ne hxy with h | h
            · rw [Hid, cmpI_lt h, cmpI_lt (H1.out h)]
            · rw [Hid, cmpI_gt h, cmpI_gt (H2.out h)]
          clear H1 H2 H3 hxy
          go_wp2
          go_region
          all_goals go_wp2
          go_quiet ((go_at_call 170; exact (cmpU32_any _ _ _ hdk hdk').mono fun _ _ h => ⟨h.1, _, h.2⟩))
          go_wp2
          go_ret
          exact ⟨ret_int HC.out, q + 1 + nq, by rw [World.drewN_drewN]⟩
  · have he' : ((ds.length : Int) != (es.length : Int)) = true := by rw [bne_iff_ne]; omega
    have hcmp : cmpI ds.length es.length = cmpI (val ds) (val es) := by
      rcases Nat.lt_or_gt_of_ne he with h | h
      · rw [cmpI_lt h, cmpI_lt (ht'.lt_of_len hd h)]
      · rw [cmpI_gt h, cmpI_gt (ht.lt_of_len hd' h)]
    have HC := hcmp
    rw [← HC]
    clear hcmp HC hm hn ht ht' hd hd' hr hr'
    generalize ds.length = la at *
    generalize es.length = lb at *
    go_enter Tryz.func136, Tryz.ntmps136
    go_wp2_with fail
    refine (cmpInt_any _ _ _ (by omega) (by omega)).mono ?_
    rintro e w' ⟨rfl, rfl⟩
    go_wp2
    go_ret
    exact ⟨rfl, 0, rfl⟩
end Go.Proofs.YtcmdglfjnepahaaGreatDoor
