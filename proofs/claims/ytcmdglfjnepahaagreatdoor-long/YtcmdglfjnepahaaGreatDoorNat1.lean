/-
  What the leaves of package natural do: IsZero, IsOne, trim, low64, commonDivisor64, Of.
-/
import Derived.Test.YtcmdglfjnepahaaGreatDoorProg
import Derived.Test.YtcmdglfjnepahaaGreatDoorMem
import Derived.WalkLawsBesides
import Derived.BigQuiet
import Derived.Laws.BitsAllLaws
import Derived.Deep.QuietTactic
set_option linter.unusedSimpArgs false
set_option linter.unusedVariables false
namespace Go.Proofs.YtcmdglfjnepahaaGreatDoor
open Go.RowKit

theorem or_join (x d : Nat) (hx : x < 4294967296) (hd : d < 4294967296) : bits .or .u64 ((x : Int) * 4294967296) (d : Int) = ((d + 4294967296 * x : Nat) : Int) := by
  have e : ((x : Int) * 4294967296) = ((x * 4294967296 : Nat) : Int) := by omega
  rw [e, u64_or_nat _ _ (by omega) (by omega), nat_join 32 (x * 4294967296) d (by omega) (by omega)]
  omega

set_option maxHeartbeats 400000 in
theorem isZero_yes (w : World) (v : Value) (h : NatV w v 0) :
    Calls Tryz.prog 44 #[v] w fun e w' => e = .returned (.bool true) ∧ w' = w := by
  obtain ⟨ds, ⟨ao, cap, rfl, hc, hr⟩, hd, ht, hv⟩ := h
  have hds := ht.zero.1 hv
  subst hds
  clear hr hv ht hd
  go_enter Tryz.func44, Tryz.ntmps44
  go_wp2
  go_ret
  exact ⟨rfl, rfl⟩

set_option maxHeartbeats 400000 in
theorem isZero_no (w : World) (v : Value) (n : Nat) (h : NatV w v n) (hn : n ≠ 0) :
    Calls Tryz.prog 44 #[v] w fun e w' => e = .returned (.bool false) ∧ w' = w := by
  obtain ⟨ds, ⟨ao, cap, rfl, hc, hr⟩, hd, ht, hv⟩ := h
  have hds : ds ≠ [] := fun e => hn (by rw [← hv, e]; rfl)
  have hl : 0 < ds.length := List.length_pos_iff.2 hds
  have hl2 : ((ds.length : Int) == 0) = false := beq_eq_false_iff_ne.2 (by omega)
  generalize ds.length = len at hl hl2 ⊢
  clear hr hv ht hd hn hds
  go_enter Tryz.func44, Tryz.ntmps44
  go_wp2
  go_ret
  exact ⟨rfl, rfl⟩

set_option maxHeartbeats 400000 in
theorem isOne_yes (w : World) (v : Value) (h : NatV w v 1) :
    Calls Tryz.prog 82 #[v] w fun e w' => e = .returned (.bool true) ∧ w' = w := by
  obtain ⟨ds, ⟨ao, cap, rfl, hc, hr⟩, hd, ht, hv⟩ := h
  have hl := ht.len (k := 1) (by rw [hv]; decide)
  match ds, hl with
  | [], _ => simp [val] at hv
  | [d], _ =>
    simp [val] at hv
    subst hv
    obtain ⟨b, off, rfl, hb, hrow⟩ := hr (by simp)
    have h0 := hrow 0 (by simp)
    simp at h0
    clear hr hrow hd ht
    go_enter Tryz.func82, Tryz.ntmps82
    go_wp2
    go_ret
    exact ⟨rfl, rfl⟩

set_option maxHeartbeats 400000 in
theorem isOne_no (w : World) (v : Value) (n : Nat) (h : NatV w v n) (hn : n ≠ 1) :
    Calls Tryz.prog 82 #[v] w fun e w' => e = .returned (.bool false) ∧ w' = w := by
  obtain ⟨ds, ⟨ao, cap, rfl, hc, hr⟩, hd, ht, hv⟩ := h
  by_cases hl : ds.length = 1
  · match ds, hl with
    | [d], _ =>
      simp [val] at hv
      subst hv
      obtain ⟨b, off, rfl, hb, hrow⟩ := hr (by simp)
      have h0 := hrow 0 (by simp)
      simp at h0
      clear hr hrow hd ht
      have hd1 : ((d : Int) == 1) = false := beq_eq_false_iff_ne.2 (by omega)
      generalize (d : Int) = x at h0 hd1
      clear hn
      go_enter Tryz.func82, Tryz.ntmps82
      go_wp2
      go_ret
      exact ⟨rfl, rfl⟩
  · have hl2 : ((ds.length : Int) == 1) = false := beq_eq_false_iff_ne.2 (by omega)
    generalize ds.length = len at hl2
    clear hr hv ht hd hn hl
    go_enter Tryz.func82, Tryz.ntmps82
    go_wp2
    go_ret
    exact ⟨rfl, rfl⟩

set_option maxHeartbeats 400000 in
theorem trim_any (w : World) (b off cap n : Nat) (ds : List Nat) (hcap : n ≤ cap) (hm : n ≤ 140737488355328) (hn : n ≤ ds.length) (hc : Row w b off ds) :
    Calls Tryz.prog 139 #[.slice (some ⟨b, off, none⟩) n cap] w fun e w' => e = .returned (.slice (some ⟨b, off, none⟩) (trimL ds n) cap) ∧ w' = w := by
  go_enter Tryz.func139, Tryz.ntmps139
  go_wp2
  go_loop [0] (fun v => ∃ k : Nat, k ≤ n ∧ Hid (trimL ds n = trimL ds k) ∧ v = .slice (some ⟨b, off, none⟩) k cap) lenOf
  case atStart => exact ⟨n, Nat.le_refl _, rfl, rfl⟩
  case round =>
    obtain ⟨k, hk, ht, rfl⟩ := hrel
    cases k with
    | zero =>
      go_wp2
      go_ret
      exact ⟨ret_slice ht.out.symm, rfl⟩
    | succ k =>
      have hck := hc k (by omega)
      by_cases hz : ds.getD k 0 = 0
      · rw [hz] at hck
        have HZ : Hid (ds.getD k 0 = 0) := hz
        clear hz
        go_wp2
        go_round
        case rel => exact ⟨k, by omega, by rw [Hid, ht.out, trimL, if_pos HZ.out], rfl⟩
        case measure => simp [lenOf]
      · have hz2 : ((ds.getD k 0 : Nat) : Int) ≠ 0 := by omega
        generalize hx : ((ds.getD k 0 : Nat) : Int) = x at hck hz2
        clear hx
        have HZ : Hid (¬ ds.getD k 0 = 0) := hz
        clear hz
        go_wp2
        go_ret
        exact ⟨ret_slice (by rw [ht.out, trimL, if_neg HZ.out]), rfl⟩

set_option maxHeartbeats 400000 in
theorem commonDivisor64_any (w : World) (a b : Nat) (ha : a < 18446744073709551616) (hb : b < 18446744073709551616) :
    Calls Tryz.prog 133 #[.int .u64 (a : Nat), .int .u64 (b : Nat)] w fun e w' => e = .returned (.int .u64 (Nat.gcd a b : Nat)) ∧ ∃ n, w' = w.drewN n := by
  go_enter Tryz.func133, Tryz.ntmps133
  go_wp2
  go_loopw [0, 1] (fun u v wr => ∃ x y : Nat, x < 18446744073709551616 ∧ y < 18446744073709551616 ∧ u = .int .u64 (x : Nat) ∧ v = .int .u64 (y : Nat) ∧ Hid (Nat.gcd x y = Nat.gcd a b) ∧ ∃ n, wr = w.drewN n) (fun _ v _ => (intOf v).toNat)
  case atStart => exact ⟨a, b, ha, hb, rfl, rfl, rfl, 0, rfl⟩
  case round =>
    obtain ⟨x, y, hx, hy, rfl, rfl, hg, n, rfl⟩ := hrel
    by_cases h0 : 0 < y
    · go_wp2
      go_region
      all_goals go_wp2
      go_roundw
      case rel => exact ⟨y, x % y, hy, Nat.lt_trans (Nat.mod_lt _ h0) hy, rfl, by go_num, by rw [Hid, ← hg.out, Nat.gcd_comm y (x % y), ← Nat.gcd_rec, Nat.gcd_comm], n + 1, rfl⟩
      case measure => have := Nat.mod_lt x h0; simp [intOf]; omega
    · have : y = 0 := by omega
      subst this
      go_wp2
      go_ret
      exact ⟨ret_int (by rw [← hg.out, Nat.gcd_zero_right]), n, rfl⟩

set_option maxHeartbeats 400000 in
theorem low64_any (w : World) (v : Value) (n : Nat) (h : NatV w v n) (hn : n < 18446744073709551616) :
    Calls Tryz.prog 134 #[v] w fun e w' => e = .returned (.int .u64 (n : Nat)) ∧ w' = w := by
  obtain ⟨ds, ⟨ao, cap, rfl, hc, hr⟩, hd, ht, hv⟩ := h
  have hl := ht.len (k := 2) (by rw [hv]; exact hn)
  have hL : ((min (ds.length : Int) 2)) = (ds.length : Int) := by omega
  have HV : Hid (val ds = n) := hv
  have hlt0 : 1 ≤ ds.length → val (ds.drop 1) < 4294967296 := by
    intro h1
    have h2 := val_lt (hd.drop 1)
    have h3 : (ds.drop 1).length ≤ 1 := by simp; omega
    have h4 := pow_mono h3
    omega
  clear hv ht
  go_enter Tryz.func134, Tryz.ntmps134
  go_wp2
  go_loop [3, 4] (fun x i => ∃ k : Nat, k ≤ ds.length ∧ i = .int .i64 ((k : Int) - 1) ∧ x = .int .u64 (val (ds.drop k) : Nat)) (fun _ i => (intOf i + 1).toNat)
  case atStart => exact ⟨ds.length, Nat.le_refl _, rfl, by simp [val]⟩
  case round =>
    obtain ⟨k, hk, rfl, rfl⟩ := hrel
    cases k with
    | zero =>
      go_wp2
      go_ret
      exact ⟨ret_int (by rw [HV.out]), rfl⟩
    | succ k =>
      have hlt : val (ds.drop (k + 1)) < 4294967296 := by
        cases k with
        | zero => exact hlt0 (by omega)
        | succ k => rw [List.drop_of_length_le (by omega)]; decide
      have hdk := hd.get k
      obtain ⟨b, off, rfl, hb, hrow⟩ := hr (by intro e; simp [e] at hk)
      have hck := hrow k (by omega)
      have hvd : Hid (val (ds.drop k) = ds.getD k 0 + 4294967296 * val (ds.drop (k + 1))) := val_drop ds k (by omega)
      generalize ds.getD k 0 = d at *
      generalize val (ds.drop (k + 1)) = x at *
      go_wp2
      go_round
      case rel => exact ⟨k, by omega, by go_num, by rw [hvd.out, or_join x d hlt hdk]⟩
      case measure => simp [intOf]

set_option maxHeartbeats 400000 in
theorem of_any (w : World) (n : Nat) (hn : n < 18446744073709551616) :
    Calls Tryz.prog 132 #[.int .u64 (n : Nat)] w fun e w' => ∃ v, e = .returned v ∧ NatV w' v n ∧ Below w.heap.size w w' := by
  have hrow : Row (w.alloc (Obj.cells #[Value.int IntKind.u32 ((n : Int) % 4294967296), Value.int IntKind.u32 ((n : Int) / 4294967296)] 131)) w.heap.size 0 [n % 4294967296, n / 4294967296] := by
    intro i hi
    match i, hi with
    | 0, _ => simp
    | 1, _ => simp
  go_enter Tryz.func132, Tryz.ntmps132
  go_wp2_with fail
  refine (trim_any _ _ 0 2 2 [n % 4294967296, n / 4294967296] (by omega) (by omega) (by simp) hrow).mono ?_
  rintro e w' ⟨rfl, rfl⟩
  go_wp2
  go_ret
  refine ⟨_, rfl, ?_, (Below.refl _ _).alloc (Nat.le_refl _) _⟩
  have := natV_trim (cap := 2) (n := 2) hrow (by intro d hd; simp at hd; rcases hd with rfl | rfl <;> omega) (by simp) rfl (by omega)
  have e : val [n % 4294967296, n / 4294967296] = n := by simp [val]; omega
  rw [e] at this
  exact this
end Go.Proofs.YtcmdglfjnepahaaGreatDoor
