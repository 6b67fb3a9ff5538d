/-
  What Over of package natural does, longDivide taken as given.
-/
import Derived.Test.YtcmdglfjnepahaaGreatDoorNat9
import Derived.Deep.RegionWith
set_option linter.unusedSimpArgs false
set_option linter.unusedVariables false
namespace Go.Proofs.YtcmdglfjnepahaaGreatDoor
open Go.RowKit

/-- What Over must do, up to numbers of K digits. -/
def OverOK (K : Nat) : Prop := ∀ (w : World) (u v : Value) (m n : Nat), NatV w u m → NatV w v n → m < 4294967296 ^ K → n < 4294967296 ^ K →
  Calls Tryz.prog 86 #[u, v] w fun e w' => ∃ x y, e = .returned (.tuple #[x, y]) ∧ NatV w' x (m / n) ∧ NatV w' y (m % n) ∧ Below w.heap.size w w'

/-- What longDivide must do, up to numbers of K digits. -/
def LongOK (K : Nat) : Prop := ∀ (w : World) (u v : Value) (m n : Nat), NatV w u m → NatV w v n → m < 4294967296 ^ K → n ≤ m → 4294967296 ^ 2 ≤ m → 4294967296 ≤ n →
  Calls Tryz.prog 140 #[u, v] w fun e w' => ∃ x y, e = .returned (.tuple #[x, y]) ∧ NatV w' x (m / n) ∧ NatV w' y (m % n) ∧ Below w.heap.size w w'

theorem longOK_two : LongOK 2 := fun w u v m n _ _ hm _ h2 _ => by omega

theorem Top.ge {ds : List Nat} (hd : Dig ds) {k : Nat} (hv : 4294967296 ^ k ≤ val ds) : k < ds.length := by
  rcases Nat.lt_or_ge k ds.length with h | h
  · exact h
  · have h1 := val_lt hd
    have h2 := pow_mono h
    omega

theorem of_int (w : World) (x : Int) (n : Nat) (hx : x = (n : Int)) (hn : n < 18446744073709551616) :
    Calls Tryz.prog 132 #[.int .u64 x] w fun e w' => ∃ v, e = .returned v ∧ NatV w' v n ∧ Below w.heap.size w w' := by
  subst hx
  exact of_any w n hn

set_option maxRecDepth 100000 in
set_option maxHeartbeats 1000000 in
theorem over_any (K : Nat) (hK : K ≤ 1073741823) (hL : LongOK K) : OverOK K := by
  intro w u v m n hu hv hm hn
  by_cases hn0 : n = 0
  · subst hn0
    go_enter Tryz.func86, Tryz.ntmps86
    go_wp2_with fail
    refine (isZero_yes _ _ hv).mono ?_
    rintro e w' ⟨rfl, rfl⟩
    go_wp2
    go_ret2
    exact ⟨_, _, rfl, by rw [Nat.div_zero]; exact NatV.zero _ _ _, by rw [Nat.mod_zero]; exact hu, Below.refl _ _⟩
  · by_cases hlt : m < n
    · go_enter Tryz.func86, Tryz.ntmps86
      go_wp2_with fail
      refine (isZero_no _ _ _ hv hn0).mono ?_
      rintro e w' ⟨rfl, rfl⟩
      go_wp2_with fail
      refine (compare_any w' u v m n K hu hv hm hn (by omega)).mono ?_
      rintro e w1 ⟨rfl, q, rfl⟩
      rw [cmpI_lt hlt]
      go_wp2
      go_ret2
      exact ⟨_, _, rfl, by rw [Nat.div_eq_of_lt hlt]; exact NatV.zero _ _ _, by rw [Nat.mod_eq_of_lt hlt]; exact hu.drewN q, below_toDrewN (Below.refl _ _)⟩
    · have hc0 : 0 ≤ cmpI m n := by
        rcases Nat.lt_or_ge n m with h | h
        · rw [cmpI_gt h]; omega
        · rw [cmpI_eq (by omega)]; omega
      by_cases h2 : m < 4294967296 ^ 2
      · obtain ⟨ds, hu1, hd, ht, hvu, hl⟩ := natV_u32 hu h2
        obtain ⟨ao, cap, rfl, hc, hr⟩ := hu1
        have hm64 : m < 18446744073709551616 := h2
        have hn64 : n < 18446744073709551616 := by omega
        clear hr
        go_enter Tryz.func86, Tryz.ntmps86
        go_wp2_with fail
        refine (isZero_no _ _ _ hv hn0).mono ?_
        rintro e w' ⟨rfl, rfl⟩
        go_wp2_with fail
        refine (compare_any w' _ v m n K hu hv hm hn (by omega)).mono ?_
        rintro e w1 ⟨rfl, q, rfl⟩
        generalize cmpI m n = cc at *
        go_wp2_with fail
        refine (low64_any _ _ m (hu.drewN q) hm64).mono ?_
        rintro e w1 ⟨rfl, rfl⟩
        go_wp2_with fail
        refine (low64_any _ _ n (hv.drewN q) hn64).mono ?_
        rintro e w1 ⟨rfl, rfl⟩
        go_wp2
        have hq1 : m / n < 18446744073709551616 := Nat.lt_of_le_of_lt (Nat.div_le_self _ _) hm64
        have hq2 : m % n < 18446744073709551616 := Nat.lt_of_le_of_lt (Nat.mod_le _ _) hm64
        have W1 : Hid (IntKind.u64.wrap ((m : Int) / (n : Int)) = ((m / n : Nat) : Int)) := by
          have e : ∀ n : Int, IntKind.u64.wrap n = n % 18446744073709551616 := fun n => by simp [IntKind.wrap, IntKind.signed, IntKind.bits]
          rw [Hid, e, ← Int.natCast_ediv]
          generalize m / n = q0 at hq1
          omega
        have W2 : Hid ((m : Int).tmod (n : Int) = ((m % n : Nat) : Int)) := by
          rw [Hid, Int.tmod_eq_emod_of_nonneg (by omega)]; simp
        go_region_with (first | (go_at_call_of 132 (IntKind.u64.wrap ((m : Int) / (n : Int))); refine (of_int _ _ (m / n) W1.out hq1).mono ?_; rintro e wA ⟨x, rfl, hx, hbx⟩) | (go_at_call_of 132 ((m : Int).tmod (n : Int)); refine (of_int _ _ (m % n) W2.out hq2).mono ?_; rintro e wB ⟨y, rfl, hy, hby⟩))
        go_wp2
        go_ret2
        exact ⟨_, _, rfl, hx.below hby, hy, below_ofDrewN (hbx.trans (hby.mono hbx.size))⟩
      · obtain ⟨ds, hu1, hd, ht, hvu, hl⟩ := natV_u32 hu hm
        obtain ⟨es, hv1, hd', ht', hvv, hl'⟩ := natV_u32 hv hn
        have hlen3 : 2 < ds.length := Top.ge hd (by omega)
        have hu2 := hu1
        obtain ⟨ao, cap, rfl, hc, hr⟩ := hu1
        have hv2 := hv1
        obtain ⟨ao', cap', rfl, hc', hr'⟩ := hv1
        by_cases h1 : es.length = 1
        · match es, h1 with
          | [d], _ =>
            simp only [val, Nat.mul_zero, Nat.add_zero] at hvv
            subst hvv
            obtain ⟨b, off, rfl, hb, hrow⟩ := hr' (by simp)
            have hd0 : w.cell? ⟨b, off, none⟩ = some (.int .u32 (d : Nat)) := by have := hrow 0 (by simp); simpa using this
            have hdl : d < 4294967296 := hd' d (by simp)
            clear hr hr' hrow
            go_enter Tryz.func86, Tryz.ntmps86
            go_wp2_with fail
            refine (isZero_no _ _ _ hv hn0).mono ?_
            rintro e w' ⟨rfl, rfl⟩
            go_wp2_with fail
            refine (compare_any w' _ _ m d K hu hv hm hn (by omega)).mono ?_
            rintro e w1 ⟨rfl, q, rfl⟩
            generalize cmpI m d = cc at *
            go_wp2_with fail
            refine (clone_any _ _ ds (hu2.drewN q) (by omega)).mono ?_
            rintro e w1 ⟨x, rfl, ⟨ao1, cap1, rfl, hc1, hr1⟩, hbel⟩
            obtain ⟨g, rfl, hg, hgl, hrow1, hfr1⟩ := hr1 (by intro e; simp [e] at hlen3)
            have hd1 : w1.cell? ⟨b, off, none⟩ = some (.int .u32 (d : Nat)) := (hbel.cell (p := ⟨b, off, none⟩) (by exact hb)).trans hd0
            go_wp2_with fail
            refine (shortDivide_any w1 g 0 cap1 d ds hc1 (by omega) (by omega) hdl hrow1 hfr1 hd).mono ?_
            rintro e w2 ⟨ds2, r, rfl, hr2, hl2, hdg2, hrow2, hup2, hval2⟩
            go_wp2_with fail
            refine (trim_any w2 g 0 cap1 ds.length ds2 hc1 (by omega) (by omega) hrow2).mono ?_
            rintro e w3 ⟨rfl, rfl⟩
            go_wp2_with fail
            refine (of_int _ _ r (by simp) (by omega)).mono ?_
            rintro e w4 ⟨y, rfl, hy, hby⟩
            go_wp2
            go_ret2
            have hq := natV_trim (n := ds.length) hrow2 hdg2 (by rw [hup2.size]; exact hgl) hl2 hc1
            have hdv : m / d = val ds2 := by rw [← hvu, hval2]; rw [Nat.mul_add_div (by omega), Nat.div_eq_of_lt hr2, Nat.add_zero]
            have hmd : m % d = r := by rw [← hvu, hval2]; rw [Nat.mul_add_mod, Nat.mod_eq_of_lt hr2]
            have hb23 : Below w'.heap.size w' w3 := below_ofDrewN (hbel.trans (hup2.below hg))
            exact ⟨_, _, rfl, by rw [hdv]; exact hq.below hby, by rw [hmd]; exact hy, hb23.trans (hby.mono hb23.size)⟩
        · have h1' : ((es.length : Int) == 1) = false := beq_eq_false_iff_ne.2 (by omega)
          have hnn : 4294967296 ≤ n := by
            have hne : 1 < es.length := by
              have : es.length ≠ 0 := fun e => hn0 (by rw [← hvv, List.length_eq_zero_iff.1 e]; rfl)
              omega
            obtain ⟨j, hj⟩ : ∃ j, es.length = j + 1 := ⟨es.length - 1, by omega⟩
            have h3 := ht'.le j hj
            have h4 := pow_mono (show 1 ≤ j by omega)
            omega
          clear hr hr'
          go_enter Tryz.func86, Tryz.ntmps86
          go_wp2_with fail
          refine (isZero_no _ _ _ hv hn0).mono ?_
          rintro e w' ⟨rfl, rfl⟩
          go_wp2_with fail
          refine (compare_any w' _ _ m n K hu hv hm hn (by omega)).mono ?_
          rintro e w1 ⟨rfl, q, rfl⟩
          generalize cmpI m n = cc at *
          go_wp2_with fail
          refine (hL _ _ _ m n (hu.drewN q) (hv.drewN q) hm (by omega) (by omega) hnn).mono ?_
          rintro e w2 ⟨x, y, rfl, hx, hy, hbel⟩
          go_wp2
          go_ret2
          exact ⟨_, _, rfl, hx, hy, below_ofDrewN hbel⟩
end Go.Proofs.YtcmdglfjnepahaaGreatDoor
