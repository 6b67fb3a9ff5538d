/-
  What Apart of package natural does.
-/
import Derived.Test.YtcmdglfjnepahaaGreatDoorNat8
set_option linter.unusedSimpArgs false
set_option linter.unusedVariables false
namespace Go.Proofs.YtcmdglfjnepahaaGreatDoor
open Go.RowKit

theorem U32s.drewN {w : World} {v : Value} {ds : List Nat} (h : U32s w v ds) (q : Nat) : U32s (w.drewN q) v ds := h
theorem NatV.drewN {w : World} {v : Value} {n : Nat} (h : NatV w v n) (q : Nat) : NatV (w.drewN q) v n := h
theorem below_ofDrewN {B q : Nat} {w w' : World} (h : Below B (w.drewN q) w') : Below B w w' := ⟨h.os, h.tape, h.output, h.size, h.block⟩
theorem below_toDrewN {B q : Nat} {w w' : World} (h : Below B w w') : Below B w (w'.drewN q) := ⟨h.os, h.tape, h.output, h.size, h.block⟩

set_option maxHeartbeats 400000 in
theorem trim_nil (w : World) (ao : Option Addr) (cap : Nat) :
    Calls Tryz.prog 139 #[.slice ao 0 cap] w fun e w' => e = .returned (.slice ao 0 cap) ∧ w' = w := by
  go_enter Tryz.func139, Tryz.ntmps139
  go_wp2
  go_loop [0] (fun v => v = .slice ao 0 cap) lenOf
  case atStart => rfl
  case round =>
    subst hrel
    go_wp2
    go_ret
    exact ⟨rfl, rfl⟩

set_option maxHeartbeats 400000 in
theorem takeTimes_nil (w : World) (ao ao' : Option Addr) (cap cap' n : Nat) (f : Int) :
    Calls Tryz.prog 174 #[.slice ao 0 cap, .slice ao' n cap', .int .u32 f] w fun e w' => e = .returned (.int .u64 0) ∧ w' = w := by
  go_enter Tryz.func174, Tryz.ntmps174
  go_wp2
  go_loop [7, 8, 13] (fun c b i => c = .int .u64 0 ∧ b = .int .u64 0 ∧ i = .int .i64 0) (fun _ _ _ => 0)
  case atStart => exact ⟨rfl, rfl, rfl⟩
  case round =>
    obtain ⟨rfl, rfl, rfl⟩ := hrel
    go_wp2
    go_ret
    exact ⟨rfl, rfl⟩

/-- What is behind the choice of the greater: clone, take, trim. -/
theorem apart_core {w w1 : World} {v x : Value} {ds es : List Nat} (hown : OwnU w w1 x ds) (hbel : Below w.heap.size w w1) (hlen : ds.length ≤ 1073741824) (hd : Dig ds) (hd' : Dig es) (hv : U32s w v es) (hes : es.length ≤ ds.length)
    (hle : val es ≤ val ds) :
    Calls Tryz.prog 174 #[x, v, .int .u32 1] w1 fun e w2 => (∃ r : Nat, e = .returned (.int .u64 (r : Nat))) ∧ Below w.heap.size w w2 ∧
      Calls Tryz.prog 139 #[x] w2 fun e w3 => ∃ y, e = .returned y ∧ NatV w3 y (val ds - val es) ∧ Below w.heap.size w w3 := by
  obtain ⟨ao, cap, rfl, hc, hr⟩ := hown
  by_cases h0 : ds = []
  · subst h0
    have h1 : es = [] := List.length_eq_zero_iff.1 (by simpa using hes)
    subst h1
    obtain ⟨ao', cap', rfl, _, _⟩ := hv
    refine (takeTimes_nil w1 ao ao' cap cap' 0 1).mono ?_
    rintro e w2 ⟨rfl, rfl⟩
    refine ⟨⟨0, rfl⟩, hbel, ?_⟩
    refine (trim_nil _ ao cap).mono ?_
    rintro e w3 ⟨rfl, rfl⟩
    exact ⟨_, rfl, NatV.zero _ _ _, hbel⟩
  · obtain ⟨g, rfl, hg, hgl, hrow, hfr⟩ := hr h0
    refine (takeTimes_any w1 g 0 cap 1 ds es v hc hlen hes (by omega) hrow hfr hd (hv.away hbel g hg) hd').mono ?_
    rintro e w2 ⟨ds', r, rfl, _, hl2, hd2, hrow2, hup2, hval2⟩
    have hb2 : Below w.heap.size w w2 := hbel.trans (hup2.below hg)
    refine ⟨⟨r, rfl⟩, hb2, ?_⟩
    refine (trim_any w2 g 0 cap ds.length ds' hc (by omega) (by omega) hrow2).mono ?_
    rintro e w3 ⟨rfl, rfl⟩
    refine ⟨_, rfl, ?_, hb2⟩
    have hfin := natV_trim (n := ds.length) hrow2 hd2 (by rw [hup2.size]; exact hgl) hl2 hc
    rw [sub_fits (a := ds) (b := es) hd2 hl2 hle hval2] at hfin
    exact hfin

set_option maxRecDepth 100000 in
set_option maxHeartbeats 1000000 in
theorem apart_any (w : World) (u v : Value) (m n K : Nat) (hu : NatV w u m) (hv : NatV w v n) (hm : m < 4294967296 ^ K) (hn : n < 4294967296 ^ K) (hK : K ≤ 1073741823) :
    Calls Tryz.prog 157 #[u, v] w fun e w' => ∃ x, e = .returned x ∧ NatV w' x ((m - n) + (n - m)) ∧ Below w.heap.size w w' := by
  obtain ⟨ds, hu1, hd, ht, hvu, hl⟩ := natV_u32 hu hm
  obtain ⟨es, hv1, hd', ht', hvv, hl'⟩ := natV_u32 hv hn
  by_cases hlt : m < n
  · have hle : ds.length ≤ es.length := by
      rcases Nat.lt_or_ge es.length ds.length with h | h
      · have := ht.lt_of_len hd' h; omega
      · exact h
    go_enter Tryz.func157, Tryz.ntmps157
    go_wp2_with fail
    refine (compare_any w u v m n K hu hv hm hn (by omega)).mono ?_
    rintro e w1 ⟨rfl, q, rfl⟩
    rw [cmpI_lt hlt]
    go_wp2_with fail
    refine (clone_any (w.drewN q) v es hv1 (by omega)).mono ?_
    rintro e w1 ⟨x, rfl, hown, hbel⟩
    have hcore := apart_core hown hbel (by omega) hd' hd (hu1.drewN q) hle (by omega)
    go_wp2_with fail
    refine hcore.mono ?_
    rintro e w2 ⟨⟨r, rfl⟩, hb2, hcore2⟩
    go_wp2_with fail
    refine hcore2.mono ?_
    rintro e w3 ⟨y, rfl, hy, hb3⟩
    go_wp2
    go_ret
    refine ⟨_, rfl, ?_, below_ofDrewN hb3⟩
    have e1 : (m - n) + (n - m) = val es - val ds := by omega
    rw [e1]
    exact hy
  · have hle : es.length ≤ ds.length := by
      rcases Nat.lt_or_ge ds.length es.length with h | h
      · have := ht'.lt_of_len hd h; omega
      · exact h
    have hc0 : 0 ≤ cmpI m n := by
      rcases Nat.lt_or_ge n m with h | h
      · rw [cmpI_gt h]; omega
      · rw [cmpI_eq (by omega)]; omega
    go_enter Tryz.func157, Tryz.ntmps157
    go_wp2_with fail
    refine (compare_any w u v m n K hu hv hm hn (by omega)).mono ?_
    rintro e w1 ⟨rfl, q, rfl⟩
    generalize cmpI m n = cc at *
    go_wp2_with fail
    refine (clone_any (w.drewN q) u ds hu1 (by omega)).mono ?_
    rintro e w1 ⟨x, rfl, hown, hbel⟩
    have hcore := apart_core hown hbel (by omega) hd hd' (hv1.drewN q) hle (by omega)
    go_wp2_with fail
    refine hcore.mono ?_
    rintro e w2 ⟨⟨r, rfl⟩, hb2, hcore2⟩
    go_wp2_with fail
    refine hcore2.mono ?_
    rintro e w3 ⟨y, rfl, hy, hb3⟩
    go_wp2
    go_ret
    refine ⟨_, rfl, ?_, below_ofDrewN hb3⟩
    have e1 : (m - n) + (n - m) = val ds - val es := by omega
    rw [e1]
    exact hy
end Go.Proofs.YtcmdglfjnepahaaGreatDoor
