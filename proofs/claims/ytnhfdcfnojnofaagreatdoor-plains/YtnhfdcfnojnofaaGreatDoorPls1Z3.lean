/-
  Part 3 of the texts ahead of Pls1: Plc1, Nat1, Nat2, Nat3.
-/
import Derived.Test.YtnhfdcfnojnofaaGreatDoorProg
import Derived.Test.YtnhfdcfnojnofaaGreatDoorPls1Z1
import Derived.Test.YtnhfdcfnojnofaaGreatDoorPls1Z2
import Derived.WalkLawsBesides
import Derived.BigQuiet
import Derived.Laws.BitsAllLaws
import Derived.Deep.QuietTactic
set_option linter.unusedSimpArgs false
set_option linter.unusedVariables false
/-
  What the places of a line do (package problem): exactly, countInto, relationInto.
-/
namespace Go.Proofs.YtnhfdcfnojnofaaGreatDoor
open Go.RowKit

set_option maxHeartbeats 400000 in
theorem exactly_mk (s : ByteArray) (w : World) :
    Calls Tryz.prog 320 #[.string s] w fun e w' => e = .returned (.func (.func 364) #[] #[.pointer (some ⟨w.heap.size, 0, none⟩)]) ∧ w' = w.alloc (.cells #[.string s] 9) := by
  go_enter Tryz.func320, Tryz.ntmps320
  have hmf : ∀ (fn : Fn) (first cap : Array Value) (w : World), (Instr.makeFunc fn first cap).run Tryz.prog w = .ok (.func fn first cap) w := fun _ _ _ _ => rfl
  go_wp2
  go_ret
  exact ⟨rfl, rfl⟩

set_option maxHeartbeats 400000 in
theorem exactly_call (s t : List UInt8) (q : Nat) (w : World) (h : w.cell? ⟨q, 0, none⟩ = some (.string ⟨t.toArray⟩)) :
    Calls Tryz.prog 364 #[.string ⟨s.toArray⟩, .pointer (some ⟨q, 0, none⟩)] w fun e w' => e = .returned (.bool (decide (s = t))) ∧ w' = w := by
  go_enter Tryz.func364, Tryz.ntmps364
  go_wp2
  go_ret
  refine ⟨ret_bool ?_, rfl⟩
  rw [Bool.eq_iff_iff]
  simp

set_option maxHeartbeats 400000 in
theorem countInto_mk (a : Addr) (w : World) :
    Calls Tryz.prog 321 #[.pointer (some a)] w fun e w' => e = .returned (.func (.func 365) #[] #[.pointer (some ⟨w.heap.size, 0, none⟩)]) ∧ w' = w.alloc (.cells #[.pointer (some a)] 432) := by
  go_enter Tryz.func321, Tryz.ntmps321
  have hmf : ∀ (fn : Fn) (first cap : Array Value) (w : World), (Instr.makeFunc fn first cap).run Tryz.prog w = .ok (.func fn first cap) w := fun _ _ _ _ => rfl
  go_wp2
  go_ret
  exact ⟨rfl, rfl⟩

/-- What the one digit of a count says; 0: it is none. -/
def cntB (s : List UInt8) : Nat := if s.length = 1 then (if 49 ≤ (s.getD 0 0).toNat ∧ (s.getD 0 0).toNat ≤ 52 then (s.getD 0 0).toNat - 48 else 0) else 0

set_option maxHeartbeats 400000 in
theorem countInto_call (s : List UInt8) (q c : Nat) (z : Int) (w : World) (h : w.cell? ⟨q, 0, none⟩ = some (.pointer (some ⟨c, 0, none⟩))) (hc : w.cell? ⟨c, 0, none⟩ = some (.int .i64 z)) (hf : w.frozen? ⟨c, 0, none⟩ = false) (hs : s.length ≤ 1000000) :
    Calls Tryz.prog 365 #[.string ⟨s.toArray⟩, .pointer (some ⟨q, 0, none⟩)] w fun e w' => e = .returned (.bool (decide (cntB s ≠ 0))) ∧ (w' = w ∨ w' = w.drew.setCell ⟨c, 0, none⟩ (.int .i64 (cntB s : Int))) ∧ (cntB s ≠ 0 → w'.cell? ⟨c, 0, none⟩ = some (.int .i64 (cntB s : Int))) := by
  by_cases h1 : s.length = 1
  · obtain ⟨x, rfl⟩ : ∃ x, s = [x] := List.length_eq_one_iff.1 h1
    by_cases hx : 49 ≤ x.toNat ∧ x.toNat ≤ 52
    · have hm : Tryz.prog.follows .mixedOrders = true := by kernel_rfl
      have hcb : cntB [x] = x.toNat - 48 := by simp [cntB, hx]
      have e0 : ({ data := #[x] } : ByteArray)[0]'(by simp [ByteArray.size]) = x := rfl
      rw [hcb]
      obtain ⟨n, hn⟩ : ∃ n, x.toNat = n := ⟨_, rfl⟩
      rw [hn] at hx ⊢
      have hw : IntKind.u8.wrap ((n : Int) - 48) = ((n - 48 : Nat) : Int) := by
        obtain rfl | rfl | rfl | rfl : n = 49 ∨ n = 50 ∨ n = 51 ∨ n = 52 := by omega
        all_goals rfl
      have hw2 : IntKind.i64.wrap ((n - 48 : Nat) : Int) = ((n - 48 : Nat) : Int) := by
        obtain rfl | rfl | rfl | rfl : n = 49 ∨ n = 50 ∨ n = 51 ∨ n = 52 := by omega
        all_goals rfl
      go_enter Tryz.func365, Tryz.ntmps365
      go_wp2
      go_region
      all_goals go_wp2
      all_goals go_ret
      all_goals refine ⟨ret_bool (by simp; omega), .inr rfl, fun _ => World.cell?_setCell_same _ _ _ hc⟩
    · have hcb : cntB [x] = 0 := by simp [cntB, hx]
      rw [hcb]
      have e0 : ({ data := #[x] } : ByteArray)[0]'(by simp [ByteArray.size]) = x := rfl
      go_enter Tryz.func365, Tryz.ntmps365
      go_wp2
      all_goals first
        | (exfalso; omega)
        | (go_ret; first | exact ⟨rfl, .inl rfl, fun h => absurd rfl h⟩ | exact ⟨rfl, .inl rfl⟩ | exact .inl rfl)
  · have hcb : cntB s = 0 := by simp [cntB, h1]
    rw [hcb]
    have h1' : ¬ (s.length : Int) = 1 := by omega
    go_enter Tryz.func365, Tryz.ntmps365
    go_wp2
    go_ret
    exact ⟨rfl, .inl rfl, fun h => absurd rfl h⟩

set_option maxHeartbeats 400000 in
theorem wholeInto_mk (a : Addr) (w : World) :
    Calls Tryz.prog 322 #[.pointer (some a)] w fun e w' => e = .returned (.func (.func 366) #[] #[.pointer (some ⟨w.heap.size, 0, none⟩)]) ∧ w' = w.alloc (.cells #[.pointer (some a)] 435) := by
  go_enter Tryz.func322, Tryz.ntmps322
  have hmf : ∀ (fn : Fn) (first cap : Array Value) (w : World), (Instr.makeFunc fn first cap).run Tryz.prog w = .ok (.func fn first cap) w := fun _ _ _ _ => rfl
  go_wp2
  go_ret
  exact ⟨rfl, rfl⟩

set_option maxHeartbeats 400000 in
theorem relationInto_mk (a : Addr) (w : World) :
    Calls Tryz.prog 324 #[.pointer (some a)] w fun e w' => e = .returned (.func (.func 368) #[] #[.pointer (some ⟨w.heap.size, 0, none⟩)]) ∧ w' = w.alloc (.cells #[.pointer (some a)] 440) := by
  go_enter Tryz.func324, Tryz.ntmps324
  have hmf : ∀ (fn : Fn) (first cap : Array Value) (w : World), (Instr.makeFunc fn first cap).run Tryz.prog w = .ok (.func fn first cap) w := fun _ _ _ _ => rfl
  go_wp2
  go_ret
  exact ⟨rfl, rfl⟩

set_option maxHeartbeats 1000000 in
set_option maxRecDepth 100000 in
theorem relationInto_call (s : List UInt8) (q c : Nat) (z : ByteArray) (w : World) (h : w.cell? ⟨q, 0, none⟩ = some (.pointer (some ⟨c, 0, none⟩))) (hc : w.cell? ⟨c, 0, none⟩ = some (.string z)) (hf : w.frozen? ⟨c, 0, none⟩ = false) :
    Calls Tryz.prog 368 #[.string ⟨s.toArray⟩, .pointer (some ⟨q, 0, none⟩)] w fun e w' => e = .returned (.bool (isSign s)) ∧ Wr (fun k => k = c) w w' ∧ (isSign s = true → ∃ w1, Below w.heap.size w w1 ∧ w' = w1.setCell ⟨c, 0, none⟩ (.string ⟨s.toArray⟩)) := by
  go_enter Tryz.func368, Tryz.ntmps368
  go_wp2
  obtain ⟨w0, hw0⟩ : ∃ w0, w.alloc (.cells #[.string ⟨#[60, 61]⟩, .string ⟨#[62, 61]⟩, .string ⟨#[61]⟩] 157) = w0 := ⟨_, rfl⟩
  have hb0 : Below w.heap.size w w0 := by rw [← hw0]; exact (Below.refl _ _).alloc (Nat.le_refl _) _
  have r0 : w0.cell? ⟨w.heap.size, 0, none⟩ = some (.string ⟨#[60, 61]⟩) := by rw [← hw0]; simp
  have r1 : w0.cell? ⟨w.heap.size, 1, none⟩ = some (.string ⟨#[62, 61]⟩) := by rw [← hw0]; simp
  have r2 : w0.cell? ⟨w.heap.size, 2, none⟩ = some (.string ⟨#[61]⟩) := by rw [← hw0]; simp
  have hlt : c < w.heap.size := block_lt_of_cell hc
  have hlq : q < w.heap.size := block_lt_of_cell h
  have h2 := (hb0.cell (p := ⟨q, 0, none⟩) hlq).trans h
  have hc2 := (hb0.cell (p := ⟨c, 0, none⟩) hlt).trans hc
  have hf2 := (hb0.frozen (p := ⟨c, 0, none⟩) hlt).trans hf
  try rw [hw0]
  have hyes : ∀ x : List UInt8, s = x → isSign x = true → Wr (fun k => k = c) w (w0.setCell ⟨c, 0, none⟩ (.string ⟨x.toArray⟩)) ∧ (isSign s = true → ∃ w1, Below w.heap.size w w1 ∧ w0.setCell ⟨c, 0, none⟩ (.string ⟨x.toArray⟩) = w1.setCell ⟨c, 0, none⟩ (.string ⟨s.toArray⟩)) := by
    intro x hx _
    subst hx
    exact ⟨(Wr.of_below (T := fun k => k = c) hb0).setCell (p := ⟨c, 0, none⟩) rfl _, fun _ => ⟨w0, hb0, rfl⟩⟩
  have HY := hide hyes
  clear hyes hw0
  go_loopw [8] (fun i wr => ∃ k : Nat, k ≤ 3 ∧ i = .int .i64 (k : Int) ∧ wr = w0 ∧ Hid ((0 < k → s ≠ [60, 61]) ∧ (1 < k → s ≠ [62, 61]) ∧ (2 < k → s ≠ [61]))) (fun i _ => 3 - (intOf i).toNat)
  case atStart => exact ⟨0, by omega, rfl, rfl, by omega, by omega, by omega⟩
  case round =>
    obtain ⟨k, hk, rfl, rfl, HN⟩ := hrel
    obtain rfl | rfl | rfl | rfl : k = 0 ∨ k = 1 ∨ k = 2 ∨ k = 3 := by omega
    · go_wp2
      · rename_i hh
        have hs : s = [60, 61] := by simpa using hh
        have e1 : isSign s = true := by rw [hs]; rfl
        go_ret
        exact ⟨by rw [e1]; rfl, HY.out [60, 61] hs rfl⟩
      · rename_i hh
        have hs : s ≠ [60, 61] := by simpa using hh
        refine ⟨⟨1, by omega, rfl, trivial, ?_⟩, by simp [intOf]⟩
        exact ⟨fun _ => hs, by omega, by omega⟩
    · go_wp2
      · rename_i hh
        have hs : s = [62, 61] := by simpa using hh
        have e1 : isSign s = true := by rw [hs]; rfl
        go_ret
        exact ⟨by rw [e1]; rfl, HY.out [62, 61] hs rfl⟩
      · rename_i hh
        have hs : s ≠ [62, 61] := by simpa using hh
        refine ⟨⟨2, by omega, rfl, trivial, ?_⟩, by simp [intOf]⟩
        exact ⟨fun _ => HN.out.1 (by omega), fun _ => hs, by omega⟩
    · go_wp2
      · rename_i hh
        have hs : s = [61] := by simpa using hh
        have e1 : isSign s = true := by rw [hs]; rfl
        go_ret
        exact ⟨by rw [e1]; rfl, HY.out [61] hs rfl⟩
      · rename_i hh
        have hs : s ≠ [61] := by simpa using hh
        refine ⟨⟨3, by omega, rfl, trivial, ?_⟩, by simp [intOf]⟩
        exact ⟨fun _ => HN.out.1 (by omega), fun _ => HN.out.2.1 (by omega), fun _ => hs⟩
    · have e1 : isSign s = false := by simp [isSign, HN.out.1 (by omega), HN.out.2.1 (by omega), HN.out.2.2 (by omega)]
      go_wp2
      go_ret
      exact ⟨by rw [e1]; rfl, Wr.of_below hb0, fun h => by rw [e1] at h; cases h⟩
end Go.Proofs.YtnhfdcfnojnofaaGreatDoor

/-
  What the leaves of package natural do: IsZero, IsOne, trim, low64, commonDivisor64, Of.
-/
namespace Go.Proofs.YtnhfdcfnojnofaaGreatDoor
open Go.RowKit

theorem or_join (x d : Nat) (hx : x < 4294967296) (hd : d < 4294967296) : bits .or .u64 ((x : Int) * 4294967296) (d : Int) = ((d + 4294967296 * x : Nat) : Int) := by
  have e : ((x : Int) * 4294967296) = ((x * 4294967296 : Nat) : Int) := by omega
  rw [e, u64_or_nat _ _ (by omega) (by omega), nat_join 32 (x * 4294967296) d (by omega) (by omega)]
  omega

set_option maxHeartbeats 400000 in
theorem isZero_yes (w : World) (v : Value) (h : NatV w v 0) :
    Calls Tryz.prog 77 #[v] w fun e w' => e = .returned (.bool true) ∧ w' = w := by
  obtain ⟨ds, ⟨ao, cap, rfl, hc, hr⟩, hd, ht, hv⟩ := h
  have hds := ht.zero.1 hv
  subst hds
  clear hr hv ht hd
  go_enter Tryz.func77, Tryz.ntmps77
  go_wp2
  go_ret
  exact ⟨rfl, rfl⟩

set_option maxHeartbeats 400000 in
theorem isZero_no (w : World) (v : Value) (n : Nat) (h : NatV w v n) (hn : n ≠ 0) :
    Calls Tryz.prog 77 #[v] w fun e w' => e = .returned (.bool false) ∧ w' = w := by
  obtain ⟨ds, ⟨ao, cap, rfl, hc, hr⟩, hd, ht, hv⟩ := h
  have hds : ds ≠ [] := fun e => hn (by rw [← hv, e]; rfl)
  have hl : 0 < ds.length := List.length_pos_iff.2 hds
  have hl2 : ((ds.length : Int) == 0) = false := beq_eq_false_iff_ne.2 (by omega)
  generalize ds.length = len at hl hl2 ⊢
  clear hr hv ht hd hn hds
  go_enter Tryz.func77, Tryz.ntmps77
  go_wp2
  go_ret
  exact ⟨rfl, rfl⟩

set_option maxHeartbeats 400000 in
theorem trim_any (w : World) (b off cap n : Nat) (ds : List Nat) (hcap : n ≤ cap) (hm : n ≤ 140737488355328) (hn : n ≤ ds.length) (hc : Row w b off ds) :
    Calls Tryz.prog 225 #[.slice (some ⟨b, off, none⟩) n cap] w fun e w' => e = .returned (.slice (some ⟨b, off, none⟩) (trimL ds n) cap) ∧ w' = w := by
  go_enter Tryz.func225, Tryz.ntmps225
  go_wp2
  go_loop [0] (fun v => ∃ k : Nat, k ≤ n ∧ Hid (trimL ds n = trimL ds k) ∧ v = .slice (some ⟨b, off, none⟩) k cap) lenOf
  case atStart => exact ⟨n, Nat.le_refl _, rfl, rfl⟩
  case round =>
    obtain ⟨k, hk, ht, rfl⟩ := hrel
    cases k with
    | zero =>
      go_wp2
      go_ret
      exact ⟨ret_slice ht.out.symm, rfl⟩
    | succ k =>
      have hck := hc k (by omega)
      by_cases hz : ds.getD k 0 = 0
      · rw [hz] at hck
        have HZ : Hid (ds.getD k 0 = 0) := hz
        clear hz
        go_wp2
        go_round
        case rel => exact ⟨k, by omega, by rw [Hid, ht.out, trimL, if_pos HZ.out], rfl⟩
        case measure => simp [lenOf]
      · have hz2 : ((ds.getD k 0 : Nat) : Int) ≠ 0 := by omega
        generalize hx : ((ds.getD k 0 : Nat) : Int) = x at hck hz2
        clear hx
        have HZ : Hid (¬ ds.getD k 0 = 0) := hz
        clear hz
        go_wp2
        go_ret
        exact ⟨ret_slice (by rw [ht.out, trimL, if_neg HZ.out]), rfl⟩

set_option maxHeartbeats 400000 in
theorem of_any (w : World) (n : Nat) (hn : n < 18446744073709551616) :
    Calls Tryz.prog 218 #[.int .u64 (n : Nat)] w fun e w' => ∃ v, e = .returned v ∧ NatV w' v n ∧ Below w.heap.size w w' := by
  have hrow : Row (w.alloc (Obj.cells #[Value.int IntKind.u32 ((n : Int) % 4294967296), Value.int IntKind.u32 ((n : Int) / 4294967296)] 224)) w.heap.size 0 [n % 4294967296, n / 4294967296] := by
    intro i hi
    match i, hi with
    | 0, _ => simp
    | 1, _ => simp
  go_enter Tryz.func218, Tryz.ntmps218
  go_wp2_with fail
  refine (trim_any _ _ 0 2 2 [n % 4294967296, n / 4294967296] (by omega) (by omega) (by simp) hrow).mono ?_
  rintro e w' ⟨rfl, rfl⟩
  go_wp2
  go_ret
  refine ⟨_, rfl, ?_, (Below.refl _ _).alloc (Nat.le_refl _) _⟩
  have := natV_trim (cap := 2) (n := 2) hrow (by intro d hd; simp at hd; rcases hd with rfl | rfl <;> omega) (by simp) rfl (by omega)
  have e : val [n % 4294967296, n / 4294967296] = n := by simp [val]; omega
  rw [e] at this
  exact this
end Go.Proofs.YtnhfdcfnojnofaaGreatDoor

/-
  What Compare of package natural does.
-/
namespace Go.Proofs.YtnhfdcfnojnofaaGreatDoor
open Go.RowKit

set_option maxHeartbeats 400000 in
theorem cmpInt_any (w : World) (a b : Nat) (ha : a ≤ 140737488355328) (hb : b ≤ 140737488355328) :
    Calls Tryz.prog 307 #[.int .i64 (a : Nat), .int .i64 (b : Nat)] w fun e w' => e = .returned (.int .i64 (cmpI a b)) ∧ w' = w := by
  rcases Nat.lt_trichotomy a b with h | h | h
  · rw [cmpI_lt h]
    go_enter Tryz.func307, Tryz.ntmps307
    go_wp2
    go_ret
    exact ⟨rfl, rfl⟩
  · rw [cmpI_eq h]
    subst h
    go_enter Tryz.func307, Tryz.ntmps307
    go_wp2
    go_ret
    exact ⟨rfl, rfl⟩
  · rw [cmpI_gt h]
    go_enter Tryz.func307, Tryz.ntmps307
    go_wp2
    go_ret
    exact ⟨rfl, rfl⟩

set_option maxHeartbeats 400000 in
theorem cmpU32_any (w : World) (a b : Nat) (ha : a < 4294967296) (hb : b < 4294967296) :
    Calls Tryz.prog 308 #[.int .u32 (a : Nat), .int .u32 (b : Nat)] w fun e w' => e = .returned (.int .i64 (cmpI a b)) ∧ w' = w := by
  rcases Nat.lt_trichotomy a b with h | h | h
  · rw [cmpI_lt h]
    go_enter Tryz.func308, Tryz.ntmps308
    go_wp2
    go_ret
    exact ⟨rfl, rfl⟩
  · rw [cmpI_eq h]
    subst h
    go_enter Tryz.func308, Tryz.ntmps308
    go_wp2
    go_ret
    exact ⟨rfl, rfl⟩
  · rw [cmpI_gt h]
    go_enter Tryz.func308, Tryz.ntmps308
    go_wp2
    go_ret
    exact ⟨rfl, rfl⟩

set_option maxHeartbeats 800000 in
theorem compare_any (w : World) (u v : Value) (m n K : Nat) (hu : NatV w u m) (hv : NatV w v n) (hm : m < 4294967296 ^ K) (hn : n < 4294967296 ^ K) (hK : K ≤ 1073741824) :
    Calls Tryz.prog 222 #[u, v] w fun e w' => e = .returned (.int .i64 (cmpI m n)) ∧ ∃ q, w' = w.drewN q := by
  obtain ⟨ds, ⟨ao, cap, rfl, hc, hr⟩, hd, ht, rfl⟩ := hu
  obtain ⟨es, ⟨ao', cap', rfl, hc', hr'⟩, hd', ht', rfl⟩ := hv
  have hl := ht.len hm
  have hl' := ht'.len hn
  by_cases he : ds.length = es.length
  · have he2 : ((ds.length : Int) != (es.length : Int)) = false := by rw [bne_eq_false_iff_eq]; omega
    have HE : Hid (ds.length = es.length) := he
    clear hm hn ht ht' he
    go_enter Tryz.func222, Tryz.ntmps222
    go_wp2
    go_loopw [5] (fun i wr => ∃ k : Nat, k ≤ ds.length ∧ i = .int .i64 ((k : Int) - 1) ∧ Hid (ds.drop k = es.drop k) ∧ ∃ q, wr = w.drewN q) (fun i _ => (intOf i + 1).toNat)
    case atStart => exact ⟨ds.length, Nat.le_refl _, rfl, by rw [Hid, List.drop_of_length_le (Nat.le_refl _), List.drop_of_length_le (by rw [HE.out]; exact Nat.le_refl _)], 0, rfl⟩
    case round =>
      obtain ⟨k, hk, rfl, hdr, q, rfl⟩ := hrel
      cases k with
      | zero =>
        go_wp2
        go_ret
        refine ⟨ret_int ?_, q, rfl⟩
        rw [cmpI_eq (by rw [← List.drop_zero (l := ds), hdr.out, List.drop_zero])]
      | succ k =>
        obtain ⟨b, off, rfl, hb, hrow⟩ := hr (by intro e; simp [e] at hk)
        obtain ⟨b', off', rfl, hb', hrow'⟩ := hr' (by intro e; rw [Hid, e] at HE; simp at HE; simp [HE] at hk)
        have hkk : k < es.length := by have := HE.out; omega
        have hck := hrow k (by omega)
        have hck' := hrow' k hkk
        have hdk := hd.get k
        have hdk' := hd'.get k
        have hi1 : (0 : Int) ≤ (k : Int) := by omega
        have hi2 : ((k : Int)).toNat = k := by omega
        have hi3 : (k : Int) < (ds.length : Int) := by omega
        have hi4 : (k : Int) < (es.length : Int) := by omega
        have hlt1 := fun h => val_lt_at hd HE.out k (by omega) hdr.out h
        have hlt2 := fun h => val_lt_at hd' HE.out.symm k (by omega) hdr.out.symm h
        have heq := fun h => drop_eq_of HE.out k (by omega) hdr.out h
        have H1 : Hid (ds.getD k 0 < es.getD k 0 → val ds < val es) := hlt1
        have H2 : Hid (es.getD k 0 < ds.getD k 0 → val es < val ds) := hlt2
        have H3 : Hid (ds.getD k 0 = es.getD k 0 → ds.drop k = es.drop k) := heq
        clear hlt1 hlt2 heq hr hr' hrow hrow'
        generalize ds.getD k 0 = x at *
        generalize es.getD k 0 = y at *
        by_cases hxy : x = y
        · have HS := H3.out hxy
          have H4 : Hid (ds.drop k = es.drop k) := HS
          have hne : ((x : Int) != (y : Int)) = false := by rw [bne_eq_false_iff_eq]; omega
          clear HS H1 H2 H3 hxy
          go_wp2
          go_region
          all_goals go_wp2
          go_roundw
          case rel => exact ⟨k, by omega, by go_num, H4, q + 1, rfl⟩
          case measure => simp [intOf]
        · have hne : ((x : Int) != (y : Int)) = true := by rw [bne_iff_ne]; omega
          have HC : Hid (cmpI x y = cmpI (val ds) (val es)) := by
            rcases Nat.lt_or_gt_of_ne hxy with h | h
            · rw [Hid, cmpI_lt h, cmpI_lt (H1.out h)]
            · rw [Hid, cmpI_gt h, cmpI_gt (H2.out h)]
          clear H1 H2 H3 hxy
          go_wp2
          go_region
          all_goals go_wp2
          go_quiet ((go_at_call 308; exact (cmpU32_any _ _ _ hdk hdk').mono fun _ _ h => ⟨h.1, _, h.2⟩))
          go_wp2
          go_ret
          exact ⟨ret_int HC.out, q + 1 + nq, by rw [World.drewN_drewN]⟩
  · have he' : ((ds.length : Int) != (es.length : Int)) = true := by rw [bne_iff_ne]; omega
    have hcmp : cmpI ds.length es.length = cmpI (val ds) (val es) := by
      rcases Nat.lt_or_gt_of_ne he with h | h
      · rw [cmpI_lt h, cmpI_lt (ht'.lt_of_len hd h)]
      · rw [cmpI_gt h, cmpI_gt (ht.lt_of_len hd' h)]
    have HC := hcmp
    rw [← HC]
    clear hcmp HC hm hn ht ht' hd hd' hr hr'
    generalize ds.length = la at *
    generalize es.length = lb at *
    go_enter Tryz.func222, Tryz.ntmps222
    go_wp2_with fail
    refine (cmpInt_any _ _ _ (by omega) (by omega)).mono ?_
    rintro e w' ⟨rfl, rfl⟩
    go_wp2
    go_ret
    exact ⟨rfl, 0, rfl⟩
end Go.Proofs.YtnhfdcfnojnofaaGreatDoor

/-
  What addInto of package natural does.
-/
namespace Go.Proofs.YtnhfdcfnojnofaaGreatDoor
open Go.RowKit

set_option maxHeartbeats 1000000 in
theorem addInto_any (w : World) (b off cap : Nat) (ds es : List Nat) (v : Value) (hcap : ds.length ≤ cap) (hlen : ds.length ≤ 1073741824) (hes : es.length ≤ ds.length)
    (hrow : Row w b off ds) (hfr : Free w b off ds.length) (hd : Dig ds) (hv : U32b w b v es) (hd' : Dig es) :
    Calls Tryz.prog 306 #[.slice (some ⟨b, off, none⟩) ds.length cap, v] w fun e w' => e = .returned (.tuple #[]) ∧
      ∃ ds' c, ds'.length = ds.length ∧ Dig ds' ∧ Row w' b off ds' ∧ Upd b off ds.length w w' ∧ val ds' + 4294967296 ^ ds.length * c = val ds + val es := by
  have hv0 := hv
  obtain ⟨ao, cap', rfl, hc', _⟩ := hv
  go_enter Tryz.func306, Tryz.ntmps306
  go_wp2
  go_loopw [4, 8] (fun cv i wr => ∃ (k c : Nat) (cur : List Nat), k ≤ ds.length ∧ c ≤ 1 ∧ i = .int .i64 (k : Nat) ∧ cv = .int .u64 (c : Nat) ∧ Hid (cur.length = ds.length) ∧ Dig cur ∧ Row wr b off cur ∧ Upd b off ds.length w wr ∧
      Hid (cur.drop k = ds.drop k) ∧ Hid (val (cur.take k) + 4294967296 ^ k * c = val (ds.take k) + val (es.take k))) (fun _ i _ => ds.length - (intOf i).toNat)
  case atStart => exact ⟨0, 0, ds, Nat.zero_le _, by omega, rfl, rfl, rfl, hd, hrow, Upd.refl _ _ _ _, rfl, by simp [Hid, val]⟩
  case round =>
    obtain ⟨k, c, cur, hk, hc, rfl, rfl, hcl, hcd, hcr, hup, hdr, hval⟩ := hrel
    by_cases hlt : k < ds.length
    · by_cases hke : k < es.length
      · obtain ⟨ao2, cap2, he2, _, hr2⟩ := hv0.upd hup
        simp only [Value.slice.injEq] at he2
        obtain ⟨rfl, _, rfl⟩ := he2
        obtain ⟨b', off', rfl, hb', hbb, hrow'⟩ := hr2 (by intro e; simp [e] at hke)
        have hx := hcr k (by rw [hcl.out]; exact hlt)
        rw [getD_of_drop hdr.out] at hx
        have hy := hrow' k hke
        have hxl := hd.get k
        have hyl := hd'.get k
        have hfz : wr.frozen? ⟨b, off + k, none⟩ = false := hup.free hfr k hlt
        have hstep := add_step (by rw [hcl.out]; exact hlt) hval.out
        have hset := hcr.setCell k ((c + ds.getD k 0 + es.getD k 0) % 4294967296) (by rw [hcl.out]; exact hlt)
        have hupd := hup.setCell k hlt (.int .u32 (((c + ds.getD k 0 + es.getD k 0) % 4294967296 : Nat) : Int))
        have HS : Hid (val ((cur.set k ((c + ds.getD k 0 + es.getD k 0) % 4294967296)).take (k + 1)) + 4294967296 ^ (k + 1) * ((c + ds.getD k 0 + es.getD k 0) / 4294967296) = val (ds.take (k + 1)) + val (es.take (k + 1))) := hstep
        clear hstep hr2 hval
        generalize ds.getD k 0 = x at *
        generalize es.getD k 0 = y at *
        have e1 : (((c + x + y) % 4294967296 : Nat) : Int) = ((c : Int) + x + y) % 4294967296 := by omega
        have e2 : (((c + x + y) / 4294967296 : Nat) : Int) = ((c : Int) + x + y) / 4294967296 := by omega
        rw [e1] at hset hupd
        have E2 : Hid ((((c + x + y) / 4294967296 : Nat) : Int) = ((c : Int) + x + y) / 4294967296) := e2
        clear e1 e2
        go_wp2
        go_roundw
        case rel => exact ⟨k + 1, (c + x + y) / 4294967296, _, by omega, by omega, by go_num, by rw [E2.out], by rw [Hid, List.length_set, hcl.out], hcd.set _ _ (Nat.mod_lt _ (by decide)), hset, hupd, by rw [Hid, drop_set_succ]; exact drop_tail hdr.out, HS⟩
        case measure => simp [intOf]; omega
      · by_cases hc0 : c = 0
        · subst hc0
          have hdone := add_done (by rw [hcl.out]; omega) hcl.out (by omega) hdr.out hval.out
          have HD : Hid (val cur + 4294967296 ^ ds.length * 0 = val ds + val es) := hdone
          clear hdone hval
          have hke2 : es.length ≤ k := by omega
          go_wp2
          refine bodyPost_ret (results_none rfl _ _ _) rfl ?_
          exact ⟨rfl, cur, 0, hcl.out, hcd, hcr, hup, HD.out⟩
        · have hx := hcr k (by rw [hcl.out]; exact hlt)
          rw [getD_of_drop hdr.out] at hx
          have hxl := hd.get k
          have hfz : wr.frozen? ⟨b, off + k, none⟩ = false := hup.free hfr k hlt
          have hstep := add_step (by rw [hcl.out]; exact hlt) hval.out
          rw [getD_none es k (by omega), Nat.add_zero] at hstep
          have hset := hcr.setCell k ((c + ds.getD k 0) % 4294967296) (by rw [hcl.out]; exact hlt)
          have hupd := hup.setCell k hlt (.int .u32 (((c + ds.getD k 0) % 4294967296 : Nat) : Int))
          have HS : Hid (val ((cur.set k ((c + ds.getD k 0) % 4294967296)).take (k + 1)) + 4294967296 ^ (k + 1) * ((c + ds.getD k 0) / 4294967296) = val (ds.take (k + 1)) + val (es.take (k + 1))) := hstep
          clear hstep hval
          generalize ds.getD k 0 = x at *
          have e1 : (((c + x) % 4294967296 : Nat) : Int) = ((c : Int) + x) % 4294967296 := by omega
          have e2 : (((c + x) / 4294967296 : Nat) : Int) = ((c : Int) + x) / 4294967296 := by omega
          rw [e1] at hset hupd
          have E2 : Hid ((((c + x) / 4294967296 : Nat) : Int) = ((c : Int) + x) / 4294967296) := e2
          clear e1 e2
          have hc2 : ((c : Int) == 0) = false := beq_eq_false_iff_ne.2 (by omega)
          have hke2 : es.length ≤ k := by omega
          go_wp2
          go_roundw
          case rel => exact ⟨k + 1, (c + x) / 4294967296, _, by omega, by omega, by go_num, by rw [E2.out], by rw [Hid, List.length_set, hcl.out], hcd.set _ _ (Nat.mod_lt _ (by decide)), hset, hupd, by rw [Hid, drop_set_succ]; exact drop_tail hdr.out, HS⟩
          case measure => simp [intOf]; omega
    · have hkd : k = ds.length := by omega
      have HV : Hid (val cur + 4294967296 ^ ds.length * c = val ds + val es) := by
        have := hval.out
        rw [List.take_of_length_le (by rw [hcl.out]; omega), List.take_of_length_le (by omega), List.take_of_length_le (by omega), hkd] at this
        exact this
      clear hval hkd
      go_wp2
      go_end0
      exact ⟨rfl, cur, c, hcl.out, hcd, hcr, hup, HV.out⟩
end Go.Proofs.YtnhfdcfnojnofaaGreatDoor
