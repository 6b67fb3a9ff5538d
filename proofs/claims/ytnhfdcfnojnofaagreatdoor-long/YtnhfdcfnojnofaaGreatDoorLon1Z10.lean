/-
  Part 10 of the texts ahead of Lon1: Pla4, Kee2, Pla6, Pla5, Kee4, Kee5, Kee6.
-/
import Derived.Test.YtnhfdcfnojnofaaGreatDoorLon1Z8
import Derived.Test.YtnhfdcfnojnofaaGreatDoorLon1Z9
import Derived.Laws.IdiomStrings
set_option linter.unusedSimpArgs false
set_option linter.unusedVariables false
/-
  What package planes does: Calc; and where the divisor is 0.
-/
namespace Go.Proofs.YtnhfdcfnojnofaaGreatDoor
open Go.RowKit

set_option maxHeartbeats 1000000 in
set_option maxRecDepth 100000 in
theorem calc_zero (w : World) (s t : ByteArray) (p : Int) (q u : Nat) (hg : Gl w) (hs : ParseOK s p q) (ht : ParseOK t 0 u) :
    Calls Tryz.prog 41 #[.int .i64 4, .string s, .string t] w fun e w' => e = .returned (.tuple #[.string ⟨#[]⟩, .int .i64 3]) ∧ Below w.heap.size w w' := by
  go_enter Tryz.func41, Tryz.ntmps41
  go_wp2_with fail
  refine (find_4 _).mono ?_
  rintro e w1 ⟨rfl, hb1⟩
  have hbox8 := Box3.new w1 (.int .i64 4) (.func (.func 123) #[] #[]) (.func (.func 124) #[] #[]) 95
  have hbA : Below w.heap.size w (w1.alloc (.cells #[.int .i64 4, .func (.func 123) #[] #[], .func (.func 124) #[] #[]] 95)) := hb1.alloc hb1.size _
  have hgA := hg.below hbA
  go_wp2_with fail
  refine (hs _ hgA).mono ?_
  rintro e w2 ⟨x, rfl, hx, hb2⟩
  obtain ⟨b, ao, l, cap, ao', l', cap', rfl, _⟩ := hx.parts
  have hbB0 : Below w.heap.size w w2 := hbA.trans (hb2.mono hbA.size)
  have hbB : Below w.heap.size w (w2.alloc (.cells #[.bool b, .slice ao l cap, .slice ao' l' cap'] 103)) := hbB0.alloc hbB0.size _
  have hbox8B := (hbox8.below hb2).alloc (.cells #[.bool b, .slice ao l cap, .slice ao' l' cap'] 103)
  have hbox10 := Box3.new w2 (.bool b) (.slice ao l cap) (.slice ao' l' cap') 103
  have hxB := hx.alloc (.cells #[.bool b, .slice ao l cap, .slice ao' l' cap'] 103)
  have hgB := hg.below hbB
  clear hb1 hb2 hbox8 hbA hgA hx hbB0
  go_wp2_with fail
  refine (ht _ hgB).mono ?_
  rintro e w3 ⟨y, rfl, hy, hb3⟩
  obtain ⟨c, bo, m, dap, bo', m', dap', rfl, _⟩ := hy.parts
  have hbC0 : Below w.heap.size w w3 := hbB.trans (hb3.mono hbB.size)
  have hbC : Below w.heap.size w (w3.alloc (.cells #[.bool c, .slice bo m dap, .slice bo' m' dap'] 103)) := hbC0.alloc hbC0.size _
  have hbox8C := (hbox8B.below hb3).alloc (.cells #[.bool c, .slice bo m dap, .slice bo' m' dap'] 103)
  have hbox10C := (hbox10.below hb3).alloc (.cells #[.bool c, .slice bo m dap, .slice bo' m' dap'] 103)
  have hbox11 := Box3.new w3 (.bool c) (.slice bo m dap) (.slice bo' m' dap') 103
  have hxC := (hxB.below hb3).alloc (.cells #[.bool c, .slice bo m dap, .slice bo' m' dap'] 103)
  have hyC := hy.alloc (.cells #[.bool c, .slice bo m dap, .slice bo' m' dap'] 103)
  have d8 := hbox8B.below hb3
  obtain ⟨i0, i1, i2, i3, i4, i5, i6⟩ := d8
  have d10 := hbox10.below hb3
  obtain ⟨j0, j1, j2, j3, j4, j5, j6⟩ := d10
  clear hb3 hbox8B hbox10 hxB hgB hbB hbC0 hy
  go_wp2_with fail
  refine (faultIfZero_yes _ _ _ p q u hxC hyC).mono ?_
  rintro e w4 ⟨rfl, hb4⟩
  have hbD : Below w.heap.size w w4 := hbC.trans (hb4.mono hbC.size)
  have d8 := hbox8C.below hb4
  have d10 := hbox10C.below hb4
  have d11 := hbox11.below hb4
  have hxD := hxC.below hb4
  have hyD := hyC.below hb4
  have hgD := hg.below hbD
  clear hb4 hbox8C hbox10C hbox11 hxC hyC hbC i0 i1 i2 i3 i4 i5 i6 j0 j1 j2 j3 j4 j5 j6
  obtain ⟨i0, i1, i2, i3, i4, i5, i6⟩ := d8
  obtain ⟨j0, j1, j2, j3, j4, j5, j6⟩ := d10
  obtain ⟨k0, k1, k2, k3, k4, k5, k6⟩ := d11
  go_wp2
  go_ret2
  exact ⟨rfl, hbD⟩

set_option maxHeartbeats 400000 in
theorem planesCalc_of (op : Int) (s t r : ByteArray) (k : Int) (w : World) (h : Calls Tryz.prog 41 #[.int .i64 op, .string s, .string t] w fun e w' => e = .returned (.tuple #[.string r, .int .i64 k]) ∧ Below w.heap.size w w') :
    Calls Tryz.prog 18 #[.int .i64 op, .string s, .string t] w fun e w' => e = .returned (.tuple #[.string r, .int .i64 k]) ∧ Below w.heap.size w w' := by
  go_enter Tryz.func18, Tryz.ntmps18
  go_wp2_with fail
  refine h.mono ?_
  rintro e w1 ⟨rfl, hb1⟩
  go_wp2
  go_ret2
  exact ⟨rfl, hb1⟩

theorem parseOK_over (a : Int) (b : Nat) (hb : b ≠ 0) (ha1 : a.natAbs < 1000000000) (hb1 : b < 1000000000) : ParseOK ⟨(overText a (b : Int)).toArray⟩ (a / (Nat.gcd a.natAbs b : Int)) (b / Nat.gcd a.natAbs b) := by
  rintro W ⟨_, mx, h1, h2⟩
  exact fracParse_text a b hb ha1 hb1 W mx h1 h2
end Go.Proofs.YtnhfdcfnojnofaaGreatDoor

/-
  What the keeper's lowest does.
-/
namespace Go.Proofs.YtnhfdcfnojnofaaGreatDoor
open Go.RowKit

/-- A fraction as it is written: in lowest terms. -/
def lowText (a : Int) (b : Nat) : List UInt8 :=
  if b / Nat.gcd a.natAbs b = 1 then Lib.itoa (a / (Nat.gcd a.natAbs b : Int)) else overText (a / (Nat.gcd a.natAbs b : Int)) (b / Nat.gcd a.natAbs b : Nat)

theorem tdiv_dvd {a : Int} {g : Nat} (hg : g ∣ a.natAbs) : Int.tdiv a (g : Int) = a / (g : Int) := by
  have h : (g : Int) ∣ a := Int.ofNat_dvd_left.2 hg
  rw [Int.tdiv_eq_ediv_of_dvd h]

theorem tdiv_abs {a : Int} {g : Nat} : (Int.tdiv a (g : Int)).natAbs ≤ a.natAbs := by
  rw [Int.natAbs_tdiv]; exact Nat.div_le_self _ _

set_option maxHeartbeats 1000000 in
set_option maxRecDepth 100000 in
theorem lowest_any (a : Int) (b : Nat) (ha : a.natAbs < 4611686018427387904) (hb0 : 0 < b) (hb : b < 4611686018427387904) (w : World) (htab : Lib.TabIs Tryz.prog w "internal/strconv.uint64pow10" .u64 Lib.pow10Tab) :
    Calls Tryz.prog 19 #[.int .i64 a, .int .i64 (b : Nat)] w fun e w' => e = .returned (.string ⟨(lowText a b).toArray⟩) ∧ Below w.heap.size w w' := by
  have hgp : 0 < Nat.gcd a.natAbs b := Nat.gcd_pos_of_pos_right _ hb0
  have hgle : Nat.gcd a.natAbs b ≤ b := Nat.le_of_dvd hb0 (Nat.gcd_dvd_right _ _)
  have hA1 := tdiv_abs (a := a) (g := Nat.gcd a.natAbs b)
  have hA2 : Hid (Int.tdiv a (Nat.gcd a.natAbs b : Int) = a / (Nat.gcd a.natAbs b : Int)) := tdiv_dvd (Nat.gcd_dvd_left _ _)
  have hLT : Hid (lowText a b = if b / Nat.gcd a.natAbs b = 1 then Lib.itoa (Int.tdiv a (Nat.gcd a.natAbs b : Int)) else overText (Int.tdiv a (Nat.gcd a.natAbs b : Int)) (b / Nat.gcd a.natAbs b : Nat)) := by
    rw [Hid, hA2.out]; rfl
  clear hA2
  have hB1 : b / Nat.gcd a.natAbs b ≤ b := Nat.div_le_self _ _
  have HG : Hid (Nat.gcd a.natAbs b = Nat.gcd a.natAbs b) := rfl
  generalize hgg : Nat.gcd a.natAbs b = g at hgp hgle hA1 hB1 hLT
  rw [hgg] at HG
  have HGG := hide hgg
  clear hgg HG
  generalize lowText a b = LT at *
  by_cases hneg : a < 0
  · go_enter Tryz.func19, Tryz.ntmps19
    go_wp2_with fail
    go_loopw [5, 6] (fun u v wr => ∃ x y : Nat, x < 4611686018427387904 ∧ y < 4611686018427387904 ∧ u = .int .i64 (x : Nat) ∧ v = .int .i64 (y : Nat) ∧ Hid (Nat.gcd x y = g) ∧ ∃ n, wr = w.drewN n) (fun _ v _ => (intOf v).toNat)
    case atStart => exact ⟨a.natAbs, b, ha, hb, by congr 1; omega, rfl, HGG, 0, rfl⟩
    case round =>
      obtain ⟨x, y, hx, hy, rfl, rfl, hg, n, rfl⟩ := hrel
      by_cases h0 : 0 < y
      · go_wp2
        go_region
        all_goals go_wp2
        go_roundw
        case rel => exact ⟨y, x % y, hy, Nat.lt_trans (Nat.mod_lt _ h0) hy, rfl, by go_num, by rw [Hid, ← hg.out, Nat.gcd_comm y (x % y), ← Nat.gcd_rec, Nat.gcd_comm], n + 1, rfl⟩
        case measure => have := Nat.mod_lt x h0; simp [intOf]; omega
      · have : y = 0 := by omega
        subst this
        have hxg : x = g := by have := hg.out; rwa [Nat.gcd_zero_right] at this
        subst hxg
        have hC : ((b / x : Nat) : Int) = (b : Int) / (x : Int) := Int.natCast_ediv _ _
        have hD0 : 0 ≤ (b : Int) / (x : Int) := by rw [← hC]; exact Int.natCast_nonneg _
        have hD1 : (b : Int) / (x : Int) < 4611686018427387904 := by omega
        rw [hC] at hLT
        have hC1 : b / x = 1 ↔ (b : Int) / (x : Int) = 1 := by omega
        simp only [hC1] at hLT
        clear hC hC1
        by_cases h1 : (b : Int) / (x : Int) = 1
        · rw [if_pos h1] at hLT
          go_wp2_with fail
          refine (num_any _ (by omega) (by omega) _ (tabIs_below htab (below_drewN (Below.refl _ _) n))).mono ?_
          rintro e wB ⟨rfl, hbB⟩
          go_wp2
          go_ret
          exact ⟨by rw [hLT.out]; rfl, ⟨hbB.os, hbB.tape, hbB.output, hbB.size, hbB.block⟩⟩
        · rw [if_neg h1] at hLT
          have hW : Hid (wrap64 ((b : Int) / (x : Int)) = (b : Int) / (x : Int)) := Go.IntWalk.wrap64_in _ (by omega)
          have H1 : ∀ _u : Unit, ¬ (b : Int) / (x : Int) = 1 := fun _ => h1
          have HD0 : ∀ _u : Unit, 0 ≤ (b : Int) / (x : Int) := fun _ => hD0
          have HD1 : ∀ _u : Unit, (b : Int) / (x : Int) < 4611686018427387904 := fun _ => hD1
          clear h1 hD0 hD1
          go_wp2_with fail
          case' _ => exact absurd (show (wrap64 ((b : Int) / (x : Int)) == 1) = true by assumption) (by rw [hW.out]; simpa using H1 ())
          have h1 := H1 ()
          have hD0 := HD0 ()
          have hD1 := HD1 ()
          rw [hW.out]
          refine (keepOver_any _ _ (by omega) (by omega) (by omega) (by omega) _ (tabIs_below htab (below_drewN (Below.refl _ _) n))).mono ?_
          rintro e wB ⟨rfl, hbB⟩
          go_wp2
          go_ret
          exact ⟨by rw [hLT.out]; rfl, ⟨hbB.os, hbB.tape, hbB.output, hbB.size, hbB.block⟩⟩
  · go_enter Tryz.func19, Tryz.ntmps19
    go_wp2_with fail
    go_loopw [5, 6] (fun u v wr => ∃ x y : Nat, x < 4611686018427387904 ∧ y < 4611686018427387904 ∧ u = .int .i64 (x : Nat) ∧ v = .int .i64 (y : Nat) ∧ Hid (Nat.gcd x y = g) ∧ ∃ n, wr = w.drewN n) (fun _ v _ => (intOf v).toNat)
    case atStart => exact ⟨a.natAbs, b, ha, hb, by congr 1; omega, rfl, HGG, 0, rfl⟩
    case round =>
      obtain ⟨x, y, hx, hy, rfl, rfl, hg, n, rfl⟩ := hrel
      by_cases h0 : 0 < y
      · go_wp2
        go_region
        all_goals go_wp2
        go_roundw
        case rel => exact ⟨y, x % y, hy, Nat.lt_trans (Nat.mod_lt _ h0) hy, rfl, by go_num, by rw [Hid, ← hg.out, Nat.gcd_comm y (x % y), ← Nat.gcd_rec, Nat.gcd_comm], n + 1, rfl⟩
        case measure => have := Nat.mod_lt x h0; simp [intOf]; omega
      · have : y = 0 := by omega
        subst this
        have hxg : x = g := by have := hg.out; rwa [Nat.gcd_zero_right] at this
        subst hxg
        have hC : ((b / x : Nat) : Int) = (b : Int) / (x : Int) := Int.natCast_ediv _ _
        have hD0 : 0 ≤ (b : Int) / (x : Int) := by rw [← hC]; exact Int.natCast_nonneg _
        have hD1 : (b : Int) / (x : Int) < 4611686018427387904 := by omega
        rw [hC] at hLT
        have hC1 : b / x = 1 ↔ (b : Int) / (x : Int) = 1 := by omega
        simp only [hC1] at hLT
        clear hC hC1
        by_cases h1 : (b : Int) / (x : Int) = 1
        · rw [if_pos h1] at hLT
          go_wp2_with fail
          refine (num_any _ (by omega) (by omega) _ (tabIs_below htab (below_drewN (Below.refl _ _) n))).mono ?_
          rintro e wB ⟨rfl, hbB⟩
          go_wp2
          go_ret
          exact ⟨by rw [hLT.out]; rfl, ⟨hbB.os, hbB.tape, hbB.output, hbB.size, hbB.block⟩⟩
        · rw [if_neg h1] at hLT
          have hW : Hid (wrap64 ((b : Int) / (x : Int)) = (b : Int) / (x : Int)) := Go.IntWalk.wrap64_in _ (by omega)
          have H1 : ∀ _u : Unit, ¬ (b : Int) / (x : Int) = 1 := fun _ => h1
          have HD0 : ∀ _u : Unit, 0 ≤ (b : Int) / (x : Int) := fun _ => hD0
          have HD1 : ∀ _u : Unit, (b : Int) / (x : Int) < 4611686018427387904 := fun _ => hD1
          clear h1 hD0 hD1
          go_wp2_with fail
          case' _ => exact absurd (show (wrap64 ((b : Int) / (x : Int)) == 1) = true by assumption) (by rw [hW.out]; simpa using H1 ())
          have h1 := H1 ()
          have hD0 := HD0 ()
          have hD1 := HD1 ()
          rw [hW.out]
          refine (keepOver_any _ _ (by omega) (by omega) (by omega) (by omega) _ (tabIs_below htab (below_drewN (Below.refl _ _) n))).mono ?_
          rintro e wB ⟨rfl, hbB⟩
          go_wp2
          go_ret
          exact ⟨by rw [hLT.out]; rfl, ⟨hbB.os, hbB.tape, hbB.output, hbB.size, hbB.block⟩⟩
end Go.Proofs.YtnhfdcfnojnofaaGreatDoor

/-
  Calc of two numbers' texts, for each operation, as what comes of it is written.
-/
namespace Go.Proofs.YtnhfdcfnojnofaaGreatDoor
open Go.RowKit

theorem ten40_5 {n : Nat} (h : n < 10 ^ 40) : n < 4294967296 ^ 5 := Nat.lt_trans h (by decide)

theorem mul40 {x y : Nat} (hx : x < 10 ^ 40) (hy : y < 10 ^ 40) : x * y < 10 ^ 80 := by
  have h := Nat.mul_lt_mul'' hx hy
  rwa [← Nat.pow_add] at h

theorem add80 {x y : Int} (hx : x.natAbs < 10 ^ 80) (hy : y.natAbs < 10 ^ 80) : (x + y).natAbs < 4294967296 ^ 10 := by
  have h1 : (x + y).natAbs ≤ x.natAbs + y.natAbs := Int.natAbs_add_le _ _
  have h2 : 10 ^ 80 + 10 ^ 80 < 4294967296 ^ 10 := by decide
  omega

theorem lt80 {n : Nat} (h : n < 10 ^ 80) : n < 4294967296 ^ 10 := Nat.lt_trans h (by decide)

theorem red_cap (X : Int) (Y : Nat) (h : X.natAbs < 4294967296 ^ 10) : (X / (Nat.gcd X.natAbs Y : Int)).natAbs < Cap := by
  have := Int.natAbs_ediv_le_natAbs X (Nat.gcd X.natAbs Y : Int)
  unfold Cap
  exact Nat.lt_of_le_of_lt this h

theorem redd_cap (X : Int) (Y : Nat) (h : Y < 4294967296 ^ 10) : Y / Nat.gcd X.natAbs Y < Cap := by
  have := Nat.div_le_self Y (Nat.gcd X.natAbs Y)
  unfold Cap
  exact Nat.lt_of_le_of_lt this h

theorem lowText_frac (X : Int) (Y : Nat) : lowText X Y = fracText (X / (Nat.gcd X.natAbs Y : Int)) (Y / Nat.gcd X.natAbs Y) := by
  unfold lowText fracText overText
  rw [itoa_nat]

theorem calcN_plus (s t : ByteArray) (p r : Int) (q u : Nat) (hs : ParseOK s p q) (ht : ParseOK t r u) (hp : p.natAbs < 10 ^ 40) (hr : r.natAbs < 10 ^ 40) (hq : q < 10 ^ 40) (hu : u < 10 ^ 40) (w : World) (hg : Gl w) :
    Calls Tryz.prog 18 #[.int .i64 1, .string s, .string t] w fun e w' => e = .returned (.tuple #[.string ⟨(lowText (p * u + r * q) (q * u)).toArray⟩, .int .i64 0]) ∧ Below w.heap.size w w' := by
  have hZ : (p * (u : Int) + r * (q : Int)).natAbs < 4294967296 ^ 10 := add80 (by rw [Int.natAbs_mul]; exact mul40 hp (by simpa using hu)) (by rw [Int.natAbs_mul]; exact mul40 hr (by simpa using hq))
  have hN : q * u < 4294967296 ^ 10 := lt80 (mul40 hq hu)
  rw [lowText_frac]
  exact planesCalc_of _ _ _ _ _ _ (calc_1 w _ _ p r _ q u _ hg hs ht (fun W x y hx hy => fplus_any 5 10 (by omega) (by omega) overOK_ten W x y p r q u hx hy (ten40_5 hp) (ten40_5 hr) (ten40_5 hq) (ten40_5 hu) hZ hN) (red_cap _ _ hZ) (redd_cap _ _ hN))

theorem calcN_minus (s t : ByteArray) (p r : Int) (q u : Nat) (hs : ParseOK s p q) (ht : ParseOK t r u) (hp : p.natAbs < 10 ^ 40) (hr : r.natAbs < 10 ^ 40) (hq : q < 10 ^ 40) (hu : u < 10 ^ 40) (w : World) (hg : Gl w) :
    Calls Tryz.prog 18 #[.int .i64 2, .string s, .string t] w fun e w' => e = .returned (.tuple #[.string ⟨(lowText (p * u + (-r) * q) (q * u)).toArray⟩, .int .i64 0]) ∧ Below w.heap.size w w' := by
  have hZ : (p * (u : Int) + (-r) * (q : Int)).natAbs < 4294967296 ^ 10 := add80 (by rw [Int.natAbs_mul]; exact mul40 hp (by simpa using hu)) (by rw [Int.natAbs_mul, Int.natAbs_neg]; exact mul40 hr (by simpa using hq))
  have hN : q * u < 4294967296 ^ 10 := lt80 (mul40 hq hu)
  rw [lowText_frac]
  exact planesCalc_of _ _ _ _ _ _ (calc_2 w _ _ p r _ q u _ hg hs ht (fun W x y hx hy => fminus_any 5 10 (by omega) (by omega) overOK_ten W x y p r q u hx hy (ten40_5 hp) (ten40_5 hr) (ten40_5 hq) (ten40_5 hu) hZ hN) (red_cap _ _ hZ) (redd_cap _ _ hN))

theorem calcN_times (s t : ByteArray) (p r : Int) (q u : Nat) (hs : ParseOK s p q) (ht : ParseOK t r u) (hp : p.natAbs < 10 ^ 40) (hr : r.natAbs < 10 ^ 40) (hq : q < 10 ^ 40) (hu : u < 10 ^ 40) (w : World) (hg : Gl w) :
    Calls Tryz.prog 18 #[.int .i64 3, .string s, .string t] w fun e w' => e = .returned (.tuple #[.string ⟨(lowText (p * r) (q * u)).toArray⟩, .int .i64 0]) ∧ Below w.heap.size w w' := by
  have hZ : (p * r).natAbs < 4294967296 ^ 10 := by rw [Int.natAbs_mul]; exact lt80 (mul40 hp hr)
  have hN : q * u < 4294967296 ^ 10 := lt80 (mul40 hq hu)
  rw [lowText_frac]
  exact planesCalc_of _ _ _ _ _ _ (calc_3 w _ _ p r _ q u _ hg hs ht (fun W x y hx hy => ftimes_any 5 (by omega) overOK_ten W x y p r q u hx hy (ten40_5 hp) (ten40_5 hr) (ten40_5 hq) (ten40_5 hu)) (red_cap _ _ hZ) (redd_cap _ _ hN))

theorem calcN_over (s t : ByteArray) (p r : Int) (q u : Nat) (hs : ParseOK s p q) (ht : ParseOK t r u) (hp : p.natAbs < 10 ^ 40) (hr : r.natAbs < 10 ^ 40) (hq : q < 10 ^ 40) (hu : u < 10 ^ 40) (hr0 : r ≠ 0) (w : World) (hg : Gl w) :
    Calls Tryz.prog 18 #[.int .i64 4, .string s, .string t] w fun e w' => e = .returned (.tuple #[.string ⟨(lowText (p * u * r.sign) (q * r.natAbs)).toArray⟩, .int .i64 0]) ∧ Below w.heap.size w w' := by
  have hZ : (p * (u : Int) * r.sign).natAbs < 4294967296 ^ 10 := by
    rw [Int.natAbs_mul, Int.natAbs_mul, Int.natAbs_sign]
    simp only [hr0, if_false, Nat.mul_one]
    exact lt80 (mul40 hp (by simpa using hu))
  have hN : q * r.natAbs < 4294967296 ^ 10 := lt80 (mul40 hq hr)
  rw [lowText_frac]
  exact planesCalc_of _ _ _ _ _ _ (calc_4 w _ _ p r _ q u _ hg hs ht hr0 (fun W x y hx hy => fover_any 5 (by omega) overOK_ten W x y p r q u hx hy hr0 (ten40_5 hp) (ten40_5 hr) (ten40_5 hq) (ten40_5 hu)) (red_cap _ _ hZ) (redd_cap _ _ hN))

theorem calcN_floor (s t : ByteArray) (p r : Int) (q u : Nat) (hs : ParseOK s p q) (ht : ParseOK t r u) (hp : p.natAbs < 10 ^ 40) (hq : q < 10 ^ 40) (w : World) (hg : Gl w) :
    Calls Tryz.prog 18 #[.int .i64 5, .string s, .string t] w fun e w' => e = .returned (.tuple #[.string ⟨(Lib.itoa (p / (q : Int))).toArray⟩, .int .i64 0]) ∧ Below w.heap.size w w' := by
  have h1 : (p / (q : Int)).natAbs < Cap := by
    have := Int.natAbs_ediv_le_natAbs p (q : Int)
    unfold Cap
    exact Nat.lt_of_le_of_lt this (ten40 hp)
  have e : Lib.itoa (p / (q : Int)) = fracText (p / (q : Int)) 1 := by rw [fracText, if_pos rfl]
  rw [e]
  exact planesCalc_of _ _ _ _ _ _ (calc_5 w _ _ p r _ q u _ hg hs ht (fun W x y hx hy => opFloor_any 10 (by omega) overOK_ten W x y p r q u hx hy (ten40 hp) (ten40 hq)) h1 (cap_small (by omega)))

theorem calcN_less (s t : ByteArray) (p r : Int) (q u : Nat) (hs : ParseOK s p q) (ht : ParseOK t r u) (hp : p.natAbs < 10 ^ 40) (hr : r.natAbs < 10 ^ 40) (hq : q < 10 ^ 40) (hu : u < 10 ^ 40) (w : World) (hg : Gl w) :
    Calls Tryz.prog 18 #[.int .i64 6, .string s, .string t] w fun e w' => e = .returned (.tuple #[.string ⟨(Lib.itoa (if p * (u : Int) < r * (q : Int) then 1 else 0)).toArray⟩, .int .i64 0]) ∧ Below w.heap.size w w' := by
  have e : ∀ z, Lib.itoa z = fracText z 1 := fun z => by rw [fracText, if_pos rfl]
  rw [e]
  exact planesCalc_of _ _ _ _ _ _ (calc_6 w _ _ p r _ q u _ hg hs ht (fun W x y hx hy => opLess_any 5 (by omega) W x y p r q u hx hy (ten40_5 hp) (ten40_5 hr) (ten40_5 hq) (ten40_5 hu)) (cap_small (by split <;> omega)) (cap_small (by omega)))
end Go.Proofs.YtnhfdcfnojnofaaGreatDoor

/-
  Calc of two small fractions' texts, for each operation, as they are written.
-/
namespace Go.Proofs.YtnhfdcfnojnofaaGreatDoor
open Go.RowKit

theorem red_scale (k : Nat) (hk : 0 < k) (X : Int) (Y : Nat) :
    ((k : Int) * X) / (Nat.gcd ((k : Int) * X).natAbs (k * Y) : Int) = X / (Nat.gcd X.natAbs Y : Int) ∧ (k * Y) / Nat.gcd ((k : Int) * X).natAbs (k * Y) = Y / Nat.gcd X.natAbs Y := by
  have h : Nat.gcd ((k : Int) * X).natAbs (k * Y) = k * Nat.gcd X.natAbs Y := by
    rw [Int.natAbs_mul, Int.natAbs_natCast, Nat.gcd_mul_left]
  rw [h, Int.natCast_mul]
  exact ⟨Int.mul_ediv_mul_of_pos _ _ (by omega), Nat.mul_div_mul_left _ _ hk⟩

theorem lowText_eq (X : Int) (Y : Nat) : lowText X Y = fracText (X / (Nat.gcd X.natAbs Y : Int)) (Y / Nat.gcd X.natAbs Y) := by
  unfold lowText fracText overText
  rw [itoa_nat]

theorem lowText_scale (k : Nat) (hk : 0 < k) (X A : Int) (Y B : Nat) (hA : A = (k : Int) * X) (hB : B = k * Y) :
    fracText (X / (Nat.gcd X.natAbs Y : Int)) (Y / Nat.gcd X.natAbs Y) = lowText A B := by
  subst hA; subst hB
  rw [lowText_eq, (red_scale k hk X Y).1, (red_scale k hk X Y).2]

/-- A fraction's parts: what is common, and the rest. -/
theorem frac_parts (a : Int) (b : Nat) (hb : b ≠ 0) : ∃ (k : Nat) (p : Int) (q : Nat), 0 < k ∧ a = (k : Int) * p ∧ b = k * q ∧ 0 < q ∧ a / (Nat.gcd a.natAbs b : Int) = p ∧ b / Nat.gcd a.natAbs b = q ∧ p.natAbs ≤ a.natAbs ∧ q ≤ b := by
  have hk : 0 < Nat.gcd a.natAbs b := Nat.gcd_pos_of_pos_right _ (Nat.pos_of_ne_zero hb)
  have h1 : a = (Nat.gcd a.natAbs b : Int) * (a / (Nat.gcd a.natAbs b : Int)) := (Int.mul_ediv_cancel' (Int.ofNat_dvd_left.2 (Nat.gcd_dvd_left _ _))).symm
  have h2 : b = Nat.gcd a.natAbs b * (b / Nat.gcd a.natAbs b) := (Nat.mul_div_cancel' (Nat.gcd_dvd_right _ _)).symm
  refine ⟨Nat.gcd a.natAbs b, _, _, hk, h1, h2, ?_, rfl, rfl, ?_, Nat.div_le_self _ _⟩
  · rcases Nat.eq_zero_or_pos (b / Nat.gcd a.natAbs b) with h | h
    · rw [h] at h2; omega
    · exact h
  · exact Int.natAbs_ediv_le_natAbs _ _

theorem mulz_bd {x : Int} {y m n : Nat} (hx : x.natAbs ≤ m) (hy : y ≤ n) : (x * (y : Int)).natAbs ≤ m * n := by
  rw [Int.natAbs_mul, Int.natAbs_natCast]; exact Nat.mul_le_mul hx hy

theorem redn_bd (X : Int) (Y : Nat) {m : Nat} (h : X.natAbs ≤ m) (hm : m < 1000000000) : (X / (Nat.gcd X.natAbs Y : Int)).natAbs < Cap := by
  have := Int.natAbs_ediv_le_natAbs X (Nat.gcd X.natAbs Y : Int); exact cap_small (by omega)

theorem redd_bd (X : Int) (Y : Nat) {m : Nat} (h : Y ≤ m) (hm : m < 1000000000) : Y / Nat.gcd X.natAbs Y < Cap := by
  have := Nat.div_le_self Y (Nat.gcd X.natAbs Y); exact cap_small (by omega)

theorem overOK_two : OverOK 2 := over_any 2 (by omega) longOK_two

theorem field_plus (a c : Int) (b d : Nat) (ha : a.natAbs ≤ 10000) (hc : c.natAbs ≤ 10000) (hb0 : b ≠ 0) (hb : b ≤ 10000) (hd0 : d ≠ 0) (hd : d ≤ 10000) (w : World) (hg : Gl w) :
    Calls Tryz.prog 18 #[.int .i64 1, .string ⟨(overText a (b : Int)).toArray⟩, .string ⟨(overText c (d : Int)).toArray⟩] w fun e w' => e = .returned (.tuple #[.string ⟨(lowText (a * (d : Int) + c * (b : Int)) (b * d)).toArray⟩, .int .i64 0]) ∧ Below w.heap.size w w' := by
  have hs := parseOK_over a b hb0 (by omega) (by omega)
  have ht := parseOK_over c d hd0 (by omega) (by omega)
  obtain ⟨k, p, q, hk, hap, hbq, hq0, e1, e2, hpa, hqb⟩ := frac_parts a b hb0
  obtain ⟨l, r, s, hl, hcr, hds, hs0, e3, e4, hrc, hsd⟩ := frac_parts c d hd0
  rw [e1, e2] at hs
  rw [e3, e4] at ht
  have m1 := mulz_bd (x := p) (y := s) (m := 10000) (n := 10000) (by omega) (by omega)
  have m2 := mulz_bd (x := r) (y := q) (m := 10000) (n := 10000) (by omega) (by omega)
  have m3 : q * s ≤ 10000 * 10000 := Nat.mul_le_mul (by omega) (by omega)
  have m4 : (p * (s : Int) + r * (q : Int)).natAbs ≤ 200000000 := by omega
  rw [← lowText_scale (k * l) (Nat.mul_pos hk hl) (p * s + r * q) _ (q * s) _ (by rw [hap, hcr, hds, hbq]; simp only [Int.natCast_mul, Int.mul_add]; ac_rfl) (by rw [hds, hbq]; ac_rfl)]
  exact planesCalc_of _ _ _ _ _ _ (calc_1 w _ _ p r _ q s _ hg hs ht (fun W x y hx hy => fplus_any 1 2 (by omega) (by omega) overOK_two W x y p r q s hx hy (by omega) (by omega) (by omega) (by omega) (by omega) (by omega)) (redn_bd _ _ m4 (by omega)) (redd_bd _ _ m3 (by omega)))

theorem field_minus (a c : Int) (b d : Nat) (ha : a.natAbs ≤ 10000) (hc : c.natAbs ≤ 10000) (hb0 : b ≠ 0) (hb : b ≤ 10000) (hd0 : d ≠ 0) (hd : d ≤ 10000) (w : World) (hg : Gl w) :
    Calls Tryz.prog 18 #[.int .i64 2, .string ⟨(overText a (b : Int)).toArray⟩, .string ⟨(overText c (d : Int)).toArray⟩] w fun e w' => e = .returned (.tuple #[.string ⟨(lowText (a * (d : Int) - c * (b : Int)) (b * d)).toArray⟩, .int .i64 0]) ∧ Below w.heap.size w w' := by
  have hs := parseOK_over a b hb0 (by omega) (by omega)
  have ht := parseOK_over c d hd0 (by omega) (by omega)
  obtain ⟨k, p, q, hk, hap, hbq, hq0, e1, e2, hpa, hqb⟩ := frac_parts a b hb0
  obtain ⟨l, r, s, hl, hcr, hds, hs0, e3, e4, hrc, hsd⟩ := frac_parts c d hd0
  rw [e1, e2] at hs
  rw [e3, e4] at ht
  have m1 := mulz_bd (x := p) (y := s) (m := 10000) (n := 10000) (by omega) (by omega)
  have m2 := mulz_bd (x := -r) (y := q) (m := 10000) (n := 10000) (by omega) (by omega)
  have m3 : q * s ≤ 10000 * 10000 := Nat.mul_le_mul (by omega) (by omega)
  have m4 : (p * (s : Int) + (-r) * (q : Int)).natAbs ≤ 200000000 := by omega
  have e : a * (d : Int) - c * (b : Int) = a * (d : Int) + (-c) * (b : Int) := by rw [Int.neg_mul]; omega
  have hcr' : -c = (l : Int) * (-r) := by rw [hcr, Int.mul_neg]
  rw [e, ← lowText_scale (k * l) (Nat.mul_pos hk hl) (p * s + (-r) * q) _ (q * s) _ (by rw [hcr', hap, hds, hbq]; generalize -r = R; simp only [Int.natCast_mul, Int.mul_add]; ac_rfl) (by rw [hds, hbq]; ac_rfl)]
  exact planesCalc_of _ _ _ _ _ _ (calc_2 w _ _ p r _ q s _ hg hs ht (fun W x y hx hy => fminus_any 1 2 (by omega) (by omega) overOK_two W x y p r q s hx hy (by omega) (by omega) (by omega) (by omega) (by omega) (by omega)) (redn_bd _ _ m4 (by omega)) (redd_bd _ _ m3 (by omega)))

theorem field_times (a c : Int) (b d : Nat) (ha : a.natAbs ≤ 10000) (hc : c.natAbs ≤ 10000) (hb0 : b ≠ 0) (hb : b ≤ 10000) (hd0 : d ≠ 0) (hd : d ≤ 10000) (w : World) (hg : Gl w) :
    Calls Tryz.prog 18 #[.int .i64 3, .string ⟨(overText a (b : Int)).toArray⟩, .string ⟨(overText c (d : Int)).toArray⟩] w fun e w' => e = .returned (.tuple #[.string ⟨(lowText (a * c) (b * d)).toArray⟩, .int .i64 0]) ∧ Below w.heap.size w w' := by
  have hs := parseOK_over a b hb0 (by omega) (by omega)
  have ht := parseOK_over c d hd0 (by omega) (by omega)
  obtain ⟨k, p, q, hk, hap, hbq, hq0, e1, e2, hpa, hqb⟩ := frac_parts a b hb0
  obtain ⟨l, r, s, hl, hcr, hds, hs0, e3, e4, hrc, hsd⟩ := frac_parts c d hd0
  rw [e1, e2] at hs
  rw [e3, e4] at ht
  have m1 : (p * r).natAbs ≤ 10000 * 10000 := by rw [Int.natAbs_mul]; exact Nat.mul_le_mul (by omega) (by omega)
  have m3 : q * s ≤ 10000 * 10000 := Nat.mul_le_mul (by omega) (by omega)
  rw [← lowText_scale (k * l) (Nat.mul_pos hk hl) (p * r) _ (q * s) _ (by rw [hap, hcr]; simp only [Int.natCast_mul]; ac_rfl) (by rw [hds, hbq]; ac_rfl)]
  exact planesCalc_of _ _ _ _ _ _ (calc_3 w _ _ p r _ q s _ hg hs ht (fun W x y hx hy => ftimes_any 1 (by omega) overOK_two W x y p r q s hx hy (by omega) (by omega) (by omega) (by omega)) (redn_bd _ _ m1 (by omega)) (redd_bd _ _ m3 (by omega)))

theorem field_over (a c : Int) (b d : Nat) (ha : a.natAbs ≤ 10000) (hc : c.natAbs ≤ 10000) (hb0 : b ≠ 0) (hb : b ≤ 10000) (hd0 : d ≠ 0) (hd : d ≤ 10000) (hc0 : c ≠ 0) (w : World) (hg : Gl w) :
    Calls Tryz.prog 18 #[.int .i64 4, .string ⟨(overText a (b : Int)).toArray⟩, .string ⟨(overText c (d : Int)).toArray⟩] w fun e w' => e = .returned (.tuple #[.string ⟨(lowText (a * (d : Int) * c.sign) (b * c.natAbs)).toArray⟩, .int .i64 0]) ∧ Below w.heap.size w w' := by
  have hs := parseOK_over a b hb0 (by omega) (by omega)
  have ht := parseOK_over c d hd0 (by omega) (by omega)
  obtain ⟨k, p, q, hk, hap, hbq, hq0, e1, e2, hpa, hqb⟩ := frac_parts a b hb0
  obtain ⟨l, r, s, hl, hcr, hds, hs0, e3, e4, hrc, hsd⟩ := frac_parts c d hd0
  rw [e1, e2] at hs
  rw [e3, e4] at ht
  have hr0 : r ≠ 0 := by rintro rfl; exact hc0 (by rw [hcr]; simp)
  have hsg : c.sign = r.sign := by rw [hcr, Int.sign_mul, Int.sign_eq_one_of_pos (by omega : (0 : Int) < l), Int.one_mul]
  have hab : c.natAbs = l * r.natAbs := by rw [hcr, Int.natAbs_mul, Int.natAbs_natCast]
  have m1 := mulz_bd (x := p) (y := s) (m := 10000) (n := 10000) (by omega) (by omega)
  have m2 : (p * (s : Int) * r.sign).natAbs ≤ 10000 * 10000 := by
    rw [Int.natAbs_mul]
    have : r.sign.natAbs ≤ 1 := by rw [Int.natAbs_sign]; split <;> omega
    exact Nat.le_trans (Nat.mul_le_mul m1 this) (by omega)
  have m3 : q * r.natAbs ≤ 10000 * 10000 := Nat.mul_le_mul (by omega) (by omega)
  rw [← lowText_scale (k * l) (Nat.mul_pos hk hl) (p * s * r.sign) _ (q * r.natAbs) _ (by rw [hsg, hap, hds]; simp only [Int.natCast_mul]; ac_rfl) (by rw [hab, hbq]; ac_rfl)]
  exact planesCalc_of _ _ _ _ _ _ (calc_4 w _ _ p r _ q s _ hg hs ht hr0 (fun W x y hx hy => fover_any 1 (by omega) overOK_two W x y p r q s hx hy hr0 (by omega) (by omega) (by omega) (by omega)) (redn_bd _ _ m2 (by omega)) (redd_bd _ _ m3 (by omega)))

theorem field_zero (a : Int) (b d : Nat) (ha : a.natAbs ≤ 10000) (hb0 : b ≠ 0) (hb : b ≤ 10000) (hd0 : d ≠ 0) (hd : d ≤ 10000) (w : World) (hg : Gl w) :
    Calls Tryz.prog 18 #[.int .i64 4, .string ⟨(overText a (b : Int)).toArray⟩, .string ⟨(overText 0 (d : Int)).toArray⟩] w fun e w' => e = .returned (.tuple #[.string ⟨#[]⟩, .int .i64 3]) ∧ Below w.heap.size w w' := by
  have hs := parseOK_over a b hb0 (by omega) (by omega)
  have ht := parseOK_over 0 d hd0 (by omega) (by omega)
  rw [Int.zero_ediv] at ht
  exact planesCalc_of _ _ _ _ _ _ (calc_zero w _ _ _ _ _ hg hs ht)

theorem field_floor (a c : Int) (b d : Nat) (ha : a.natAbs ≤ 10000) (hc : c.natAbs ≤ 10000) (hb0 : b ≠ 0) (hb : b ≤ 10000) (hd0 : d ≠ 0) (hd : d ≤ 10000) (w : World) (hg : Gl w) :
    Calls Tryz.prog 18 #[.int .i64 5, .string ⟨(overText a (b : Int)).toArray⟩, .string ⟨(overText c (d : Int)).toArray⟩] w fun e w' => e = .returned (.tuple #[.string ⟨(Lib.itoa (a / (b : Int))).toArray⟩, .int .i64 0]) ∧ Below w.heap.size w w' := by
  have hs := parseOK_over a b hb0 (by omega) (by omega)
  have ht := parseOK_over c d hd0 (by omega) (by omega)
  obtain ⟨k, p, q, hk, hap, hbq, hq0, e1, e2, hpa, hqb⟩ := frac_parts a b hb0
  obtain ⟨l, r, s, hl, hcr, hds, hs0, e3, e4, hrc, hsd⟩ := frac_parts c d hd0
  rw [e1, e2] at hs
  rw [e3, e4] at ht
  have e : Lib.itoa (a / (b : Int)) = fracText (p / (q : Int)) 1 := by
    rw [fracText, if_pos rfl, hap, hbq, Int.natCast_mul, Int.mul_ediv_mul_of_pos _ _ (by omega)]
  have m1 := Int.natAbs_ediv_le_natAbs p (q : Int)
  rw [e]
  exact planesCalc_of _ _ _ _ _ _ (calc_5 w _ _ p r _ q s _ hg hs ht (fun W x y hx hy => opFloor_any 2 (by omega) overOK_two W x y p r q s hx hy (by omega) (by omega)) (cap_small (by omega)) (cap_small (by omega)))

theorem field_less (a c : Int) (b d : Nat) (ha : a.natAbs ≤ 10000) (hc : c.natAbs ≤ 10000) (hb0 : b ≠ 0) (hb : b ≤ 10000) (hd0 : d ≠ 0) (hd : d ≤ 10000) (w : World) (hg : Gl w) :
    Calls Tryz.prog 18 #[.int .i64 6, .string ⟨(overText a (b : Int)).toArray⟩, .string ⟨(overText c (d : Int)).toArray⟩] w fun e w' => e = .returned (.tuple #[.string (if a * (d : Int) < c * (b : Int) then ⟨#[49]⟩ else ⟨#[48]⟩), .int .i64 0]) ∧ Below w.heap.size w w' := by
  have hs := parseOK_over a b hb0 (by omega) (by omega)
  have ht := parseOK_over c d hd0 (by omega) (by omega)
  obtain ⟨k, p, q, hk, hap, hbq, hq0, e1, e2, hpa, hqb⟩ := frac_parts a b hb0
  obtain ⟨l, r, s, hl, hcr, hds, hs0, e3, e4, hrc, hsd⟩ := frac_parts c d hd0
  rw [e1, e2] at hs
  rw [e3, e4] at ht
  have h1 : a * (d : Int) = ((k * l : Nat) : Int) * (p * s) := by rw [hap, hds]; simp only [Int.natCast_mul]; ac_rfl
  have h2 : c * (b : Int) = ((k * l : Nat) : Int) * (r * q) := by rw [hcr, hbq]; simp only [Int.natCast_mul]; ac_rfl
  have hkl : (0 : Int) < ((k * l : Nat) : Int) := by have := Nat.mul_pos hk hl; omega
  have h3 : (a * (d : Int) < c * (b : Int)) = (p * (s : Int) < r * (q : Int)) := by
    rw [h1, h2]
    exact propext ⟨fun h => Int.lt_of_mul_lt_mul_left h (Int.le_of_lt hkl), fun h => Int.mul_lt_mul_of_pos_left h hkl⟩
  have e : (if a * (d : Int) < c * (b : Int) then (⟨#[49]⟩ : ByteArray) else ⟨#[48]⟩) = ⟨(fracText (if p * (s : Int) < r * (q : Int) then 1 else 0) 1).toArray⟩ := by
    simp only [h3]
    rw [fracText, if_pos rfl]
    by_cases h : p * (s : Int) < r * (q : Int)
    · rw [if_pos h, if_pos h]; decide +kernel
    · rw [if_neg h, if_neg h]; decide +kernel
  rw [e]
  exact planesCalc_of _ _ _ _ _ _ (calc_6 w _ _ p r _ q s _ hg hs ht (fun W x y hx hy => opLess_any 1 (by omega) W x y p r q s hx hy (by omega) (by omega) (by omega) (by omega)) (cap_small (by split <;> omega)) (cap_small (by omega)))
end Go.Proofs.YtnhfdcfnojnofaaGreatDoor

/-
  What the keeper's calc does with whole numbers' texts.
-/
namespace Go.Proofs.YtnhfdcfnojnofaaGreatDoor
open Go.RowKit

theorem u8_back {c : UInt8} (h : 48 ≤ c.toNat) : UInt8.ofNat (48 + (c.toNat - 48)) = c := by
  rw [show 48 + (c.toNat - 48) = c.toNat by omega]
  exact UInt8.ofNat_toNat

theorem dec_of (k : Nat) : ∀ l : List UInt8, l.length = k + 1 → allDig l = true → l.head? ≠ some 48 → decVal l ≠ 0 ∧ Lib.decDigits (decVal l) = l := by
  induction k with
  | zero =>
    intro l hl hd hh
    obtain ⟨c, rfl⟩ := List.length_eq_one_iff.1 hl
    have hb := isDig_bd (c := c) (by simpa [allDig] using hd)
    have hc : c.toNat ≠ 48 := by
      intro h
      exact hh (by rw [List.head?_cons]; exact congrArg some (UInt8.toNat.inj h))
    have e : decVal [c] = c.toNat - 48 := by simp [decVal]
    rw [e]
    refine ⟨by omega, ?_⟩
    rw [Lib.decDigits, dif_pos (by omega), u8_back hb.1]
  | succ k ih =>
    intro l hl hd hh
    have hne : l ≠ [] := by rintro rfl; simp at hl
    obtain ⟨l', c, rfl⟩ : ∃ l' c, l = l' ++ [c] := ⟨l.dropLast, l.getLast hne, (List.dropLast_concat_getLast hne).symm⟩
    have hl' : l'.length = k + 1 := by simpa using hl
    rw [allDig_append] at hd
    simp only [Bool.and_eq_true] at hd
    have hh' : l'.head? ≠ some 48 := by
      intro h
      apply hh
      cases l' with
      | nil => simp at hl'
      | cons a r => simpa using h
    obtain ⟨h0, h1⟩ := ih l' hl' hd.1 hh'
    have hb := isDig_bd (c := c) (by simpa [allDig] using hd.2)
    rw [decVal_snoc]
    refine ⟨by omega, ?_⟩
    rw [Lib.decDigits, dif_neg (by omega), show (decVal l' * 10 + (c.toNat - 48)) / 10 = decVal l' by omega, show (decVal l' * 10 + (c.toNat - 48)) % 10 = c.toNat - 48 by omega, h1, u8_back hb.1]

/-- What the keeper makes of raw bytes: a digit of each; a 7 ahead of none, or of a nought. -/
def digT (l : List UInt8) : List UInt8 := if l = [] ∨ l.head? = some 48 then 55 :: l else l

theorem digT_dec {l : List UInt8} (h : allDig l = true) : ∃ n, digT l = Lib.decDigits n ∧ n ≠ 0 ∧ n < 10 ^ (l.length + 1) := by
  have h7 : allDig (55 :: l) = true := by
    have : allDig ([55] ++ l) = true := by rw [allDig_append, h]; decide
    exact this
  unfold digT
  split
  · have h1 := dec_of l.length (55 :: l) (by simp) h7 (by simp)
    exact ⟨decVal (55 :: l), h1.2.symm, h1.1, by have := decVal_lt h7; simpa using this⟩
  · rename_i hn
    rw [not_or] at hn
    have hp : 0 < l.length := List.length_pos_iff.2 hn.1
    have h1 := dec_of (l.length - 1) l (by omega) h hn.2
    refine ⟨decVal l, h1.2.symm, h1.1, Nat.lt_trans (decVal_lt h) ?_⟩
    exact Nat.pow_lt_pow_right (by omega) (by omega)

/-- The text of a whole number. -/
def wT (z : Int) : ByteArray := ⟨(Lib.itoa z).toArray⟩

/-- The keeper's calc answers so. -/
def KC (op : Int) (s t r : ByteArray) : Prop := ∀ W, Gl W → Calls Tryz.prog 22 #[.int .i64 op, .string s, .string t] W fun e w' => e = .returned (.string r) ∧ Below W.heap.size W w'

set_option maxHeartbeats 400000 in
theorem kc_of {op : Int} {s t r : ByteArray} (h : ∀ W, Gl W → Calls Tryz.prog 18 #[.int .i64 op, .string s, .string t] W fun e w' => e = .returned (.tuple #[.string r, .int .i64 0]) ∧ Below W.heap.size W w') : KC op s t r := by
  intro w hg
  have H := hide h
  go_enter Tryz.func22, Tryz.ntmps22
  go_wp2_with fail
  refine (H.out _ hg).mono ?_
  rintro e w1 ⟨rfl, hb1⟩
  go_wp2
  go_ret
  exact ⟨rfl, hb1⟩

theorem low_one (X : Int) : lowText X 1 = Lib.itoa X := by
  rw [lowText_eq, Nat.gcd_one_right]
  simp [fracText]

theorem parse_wT (z : Int) (h : z.natAbs < 10 ^ 40) : ParseOK (wT z) z 1 := by
  have := parseOK_text z 1 (by omega) (Nat.gcd_one_right _) h (by decide)
  rwa [fracText, if_pos rfl] at this

theorem one40 : 1 < 10 ^ 40 := by decide

theorem kc_plus (x y : Int) (hx : x.natAbs < 10 ^ 40) (hy : y.natAbs < 10 ^ 40) : KC 1 (wT x) (wT y) (wT (x + y)) := by
  refine kc_of fun W hg => ?_
  have h := calcN_plus _ _ _ _ _ _ (parse_wT x hx) (parse_wT y hy) hx hy one40 one40 W hg
  simp only [Int.natCast_one, Int.mul_one, Nat.mul_one, low_one] at h
  exact h

theorem kc_minus (x y : Int) (hx : x.natAbs < 10 ^ 40) (hy : y.natAbs < 10 ^ 40) : KC 2 (wT x) (wT y) (wT (x - y)) := by
  refine kc_of fun W hg => ?_
  have h := calcN_minus _ _ _ _ _ _ (parse_wT x hx) (parse_wT y hy) hx hy one40 one40 W hg
  simp only [Int.natCast_one, Int.mul_one, Nat.mul_one, low_one] at h
  exact h

theorem kc_times (x y : Int) (hx : x.natAbs < 10 ^ 40) (hy : y.natAbs < 10 ^ 40) : KC 3 (wT x) (wT y) (wT (x * y)) := by
  refine kc_of fun W hg => ?_
  have h := calcN_times _ _ _ _ _ _ (parse_wT x hx) (parse_wT y hy) hx hy one40 one40 W hg
  simp only [Nat.mul_one, low_one] at h
  exact h

theorem kc_over (x : Int) (y : Nat) (hx : x.natAbs < 10 ^ 40) (hy : y < 10 ^ 40) (h0 : y ≠ 0) : KC 4 (wT x) (wT y) ⟨(lowText x y).toArray⟩ := by
  refine kc_of fun W hg => ?_
  have h := calcN_over _ _ _ _ _ _ (parse_wT x hx) (parse_wT (y : Int) (by simpa using hy)) hx (by simpa using hy) one40 one40 (by omega) W hg
  rw [Int.sign_eq_one_of_pos (by omega)] at h
  simp only [Int.natCast_one, Int.mul_one, Nat.one_mul, Int.natAbs_natCast] at h
  exact h

theorem kc_back (x : Int) (y : Nat) (hx : (x * (y : Int)).natAbs < 10 ^ 40) (hy : y < 10 ^ 40) (h0 : y ≠ 0) : KC 4 (wT (x * (y : Int))) (wT y) (wT x) := by
  have h := kc_over (x * (y : Int)) y hx hy h0
  rw [← lowText_scale y (Nat.pos_of_ne_zero h0) x (x * (y : Int)) 1 y (Int.mul_comm _ _) (Nat.mul_one _).symm, Nat.gcd_one_right] at h
  simpa [fracText, wT] using h

theorem kc_floor (x : Int) (y : Nat) (hx : x.natAbs < 10 ^ 40) (hy : y < 10 ^ 40) (h0 : y ≠ 0) : KC 5 ⟨(lowText x y).toArray⟩ (wT 0) (wT (x / (y : Int))) := by
  refine kc_of fun W hg => ?_
  obtain ⟨k, p, q, hk, hap, hbq, hq0, e1, e2, hpa, hqb⟩ := frac_parts x y h0
  have hc : Nat.gcd p.natAbs q = 1 := by
    rw [← e1, ← e2]
    have hg0 : 0 < Nat.gcd x.natAbs y := Nat.gcd_pos_of_pos_right _ (Nat.pos_of_ne_zero h0)
    have e : (x / (Nat.gcd x.natAbs y : Int)).natAbs = x.natAbs / Nat.gcd x.natAbs y := by
      rw [Int.natAbs_ediv_of_dvd (Int.ofNat_dvd_left.2 (Nat.gcd_dvd_left _ _)), Int.natAbs_natCast]
    rw [e]
    exact Nat.gcd_div_gcd_div_gcd_of_pos_right (Nat.pos_of_ne_zero h0)
  rw [lowText_eq, e1, e2]
  have hp := parseOK_text p q hq0 hc (Nat.lt_of_le_of_lt hpa hx) (Nat.lt_of_le_of_lt hqb hy)
  have h := calcN_floor _ _ _ _ _ _ hp (parse_wT 0 (by decide)) (Nat.lt_of_le_of_lt hpa hx) (Nat.lt_of_le_of_lt hqb hy) W hg
  have e : x / (y : Int) = p / (q : Int) := by rw [hap, hbq, Int.natCast_mul, Int.mul_ediv_mul_of_pos _ _ (by omega)]
  rw [e]
  exact h

theorem kc_less (x y : Int) (hx : x.natAbs < 10 ^ 40) (hy : y.natAbs < 10 ^ 40) : KC 6 (wT x) (wT y) (wT (if x < y then 1 else 0)) := by
  refine kc_of fun W hg => ?_
  have h := calcN_less _ _ _ _ _ _ (parse_wT x hx) (parse_wT y hy) hx hy one40 one40 W hg
  simp only [Int.natCast_one, Int.mul_one] at h
  exact h

theorem wT_zero : wT 0 = ⟨#[48]⟩ := by decide +kernel
theorem wT_one : wT 1 = ⟨#[49]⟩ := by decide +kernel
theorem wT_ten : wT 10 = ⟨#[49, 48]⟩ := by decide +kernel

theorem wT_pow (i : Nat) : (wT ((10 ^ (i + 1) : Nat) : Int)) = wT ((10 ^ i : Nat) : Int) ++ ⟨#[48]⟩ := by
  have hp : 0 < 10 ^ i := Nat.pow_pos (by omega)
  have e : Lib.decDigits (10 ^ (i + 1)) = Lib.decDigits (10 ^ i) ++ [48] := by
    rw [Nat.pow_succ]
    generalize 10 ^ i = X at *
    rw [Lib.decDigits, dif_neg (by omega), show X * 10 / 10 = X by omega, show X * 10 % 10 = 0 by omega]
    rfl
  unfold wT
  rw [itoa_nat, itoa_nat, e]
  exact (ba_append _ [48]).symm

theorem wT_size (z : Int) (h : z.natAbs < 10 ^ 40) : (wT z).size ≤ 41 := by
  have hl1 := dec_len_le 40 _ h (by omega)
  unfold wT
  rw [size_mk, Lib.itoa]
  split
  · simp; omega
  · rw [show z.toNat = z.natAbs by omega]; omega

theorem wT_ne (z : Int) : 0 < (wT z).size := by
  unfold wT
  rw [size_mk, Lib.itoa]
  split
  · simp
  · exact dec_pos _
end Go.Proofs.YtnhfdcfnojnofaaGreatDoor

/-
  What the keeper's digits does.
-/
namespace Go.Proofs.YtnhfdcfnojnofaaGreatDoor
open Go.RowKit

/-- A digit of each of the first k bytes. -/
def digL (l : List UInt8) (k : Nat) : List UInt8 := (l.take k).map fun c => UInt8.ofNat (48 + c.toNat % 10)

theorem digL_all (l : List UInt8) (k : Nat) : allDig (digL l k) = true := by
  unfold allDig digL
  rw [List.all_eq_true]
  intro c hc
  obtain ⟨d, _, rfl⟩ := List.mem_map.1 hc
  have h : d.toNat % 10 < 10 := Nat.mod_lt _ (by omega)
  have := dig_toNat h
  simp only [isDig, this]
  simp
  omega

theorem digL_len (l : List UInt8) (k : Nat) (h : k ≤ l.length) : (digL l k).length = k := by
  simp [digL]; omega

theorem digL_succ (l : List UInt8) (k : Nat) (h : k < l.length) : digL l (k + 1) = digL l k ++ [UInt8.ofNat (48 + l[k].toNat % 10)] := by
  unfold digL
  rw [List.take_succ_eq_append_getElem h, List.map_append]
  rfl

theorem toList_len (s : ByteArray) : s.data.toList.length = s.size := Array.length_toList

theorem empty_no {s : ByteArray} (h : s ≠ ⟨#[]⟩) : s.toList.isEmpty = false := by
  rw [← Go.decide_eq_emptyBytes]
  exact decide_eq_false h

theorem digT_seven {s : ByteArray} (h : s = ⟨#[]⟩ ∨ ∃ h0 : 0 < s.size, s[0].toNat = 48) : (⟨#[55]⟩ : ByteArray) ++ s = ⟨(digT s.data.toList).toArray⟩ := by
  have e : digT s.data.toList = 55 :: s.data.toList := by
    unfold digT
    rw [if_pos]
    rcases h with rfl | ⟨h0, h⟩
    · exact Or.inl rfl
    · right
      obtain ⟨⟨l⟩⟩ := s
      cases l with
      | nil => simp [ByteArray.size] at h0
      | cons c r => exact congrArg some (UInt8.toNat.inj h)
  rw [e]
  apply ByteArray.ext
  simp

theorem digT_same {s : ByteArray} (h0 : 0 < s.size) (h : s[0].toNat ≠ 48) : s = ⟨(digT s.data.toList).toArray⟩ := by
  have e : digT s.data.toList = s.data.toList := by
    unfold digT
    rw [if_neg]
    rintro (h1 | h1)
    · obtain ⟨⟨l⟩⟩ := s
      simp only at h1
      subst h1
      simp [ByteArray.size] at h0
    · obtain ⟨⟨l⟩⟩ := s
      cases l with
      | nil => simp at h1
      | cons c r =>
        have hc : c = 48 := by simpa using h1
        subst hc
        exact h rfl
  rw [e]

theorem u8_digit (c : UInt8) : wrap64 (48 + (wrap64 (c.toNat : Int)).tmod 10) % 256 = ((UInt8.ofNat (48 + c.toNat % 10)).toNat : Int) := by
  have h : c.toNat % 10 < 10 := Nat.mod_lt _ (by omega)
  have hc : c.toNat < 256 := c.toNat_lt
  rw [UInt8.toNat_ofNat', Go.IntWalk.wrap64_in (c.toNat : Int) (by omega), Int.tmod_eq_emod_of_nonneg (by omega), Go.IntWalk.wrap64_in _ (by omega)]
  omega

set_option maxHeartbeats 1000000 in
set_option maxRecDepth 100000 in
theorem digits_any (raw : ByteArray) (m : Nat) (hm : m ≤ 30) (hraw : raw.size ≤ 9223372036854775807) (w : World) :
    Calls Tryz.prog 21 #[.string raw, .int .i64 (m : Nat)] w fun e w' => ∃ n : Nat, e = .returned (.string (wT n)) ∧ n ≠ 0 ∧ n < 10 ^ (m + 1) ∧ Below w.heap.size w w' := by
  go_enter Tryz.func21, Tryz.ntmps21
  go_wp2
  go_loopw [5, 6] (fun sv iv wr => ∃ (k : Nat) (sB : ByteArray), k ≤ raw.size ∧ k ≤ m ∧ sv = .string sB ∧ sB.size = k ∧ Hid (sB = ⟨(digL raw.data.toList k).toArray⟩) ∧ iv = .int .i64 (k : Nat) ∧ Below w.heap.size w wr) (fun _ iv _ => ((m : Int) - intOf iv).toNat)
  case atStart => exact ⟨0, ⟨#[]⟩, by omega, by omega, rfl, rfl, rfl, rfl, Below.refl _ _⟩
  case round =>
    obtain ⟨k, sB, hk1, hk2, rfl, hsz, HB, rfl, hb⟩ := hrel
    have hend : Hid (∃ n : Nat, (⟨(digT sB.data.toList).toArray⟩ : ByteArray) = wT n ∧ n ≠ 0 ∧ n < 10 ^ (m + 1)) := by
      have hl : sB.data.toList = digL raw.data.toList k := by rw [HB.out]
      obtain ⟨n, h1, h2, h3⟩ := digT_dec (digL_all raw.data.toList k)
      rw [Hid, hl]
      refine ⟨n, by rw [h1, wT, itoa_nat], h2, Nat.lt_of_lt_of_le h3 (Nat.pow_le_pow_right (by omega) ?_)⟩
      rw [digL_len _ _ (by rw [toList_len]; exact hk1)]
      omega
    by_cases h1 : k < raw.size
    · by_cases h2 : k < m
      · have hst : Hid (sB ++ ⟨[UInt8.ofNat (48 + raw[k].toNat % 10)].toArray⟩ = ⟨(digL raw.data.toList (k + 1)).toArray⟩) := by
          rw [Hid, digL_succ _ _ (by rw [toList_len]; exact h1), HB.out]
          exact ba_append _ _
        have e8 := u8_digit raw[k]
        have E8 := hide e8
        obtain ⟨u, hu⟩ : ∃ u, UInt8.ofNat (48 + raw[k].toNat % 10) = u := ⟨_, rfl⟩
        rw [hu] at hst
        have HU := hide hu
        clear e8 hu hend
        have hback : (convert 78 9 (.slice (some ⟨wr.heap.size, 0, none⟩) 1 1)).run Tryz.prog (wr.alloc (.cells #[.int .u8 (u.toNat : Int)] 5)) = .ok (.string ⟨[u].toArray⟩) (wr.alloc (.cells #[.int .u8 (u.toNat : Int)] 5)) := run_convert_bytes_back (P := Tryz.prog) (wr.alloc (.cells #[.int .u8 (u.toNat : Int)] 5)) 78 9 5 ⟨wr.heap.size, 0, none⟩ 1 [u] Tryz.underlying78 Tryz.underlying5 Tryz.underlying9 (by
          intro j hj
          have : j = 0 := by simp at hj; omega
          subst this
          simp [Addr.add])
        have HBK := hide hback
        clear hback
        go_wp2
        rw [E8.out, HU.out]
        rw [HBK.out]
        simp only [Result.andThen]
        rw [Oper.upon_value]
        have hszu : (ByteArray.mk [u].toArray).size = 1 := rfl
        generalize ByteArray.mk [u].toArray = tB at *
        go_wp2
        go_roundw
        case rel => exact ⟨k + 1, _, by omega, by omega, rfl, by rw [ByteArray.size_append]; omega, hst, by go_num, hb.alloc hb.size _⟩
        case measure => simp [intOf]; omega
      · by_cases h3 : sB = ⟨#[]⟩
        · subst h3
          obtain rfl : k = 0 := hsz.symm
          clear hsz
          go_wp2
          go_ret
          obtain ⟨n, e1, e2, e3⟩ := hend.out
          exact ⟨n, by rw [← e1, ← digT_seven (Or.inl rfl)]; rfl, e2, e3, hb⟩
        · have hk0 : 0 < sB.size := by
            rcases Nat.eq_zero_or_pos sB.size with h | h
            · exact absurd (ByteArray.ext (Array.eq_empty_of_size_eq_zero h)) h3
            · exact h
          have h5 := empty_no h3
          by_cases h4 : ((sB[0].toNat : Nat) : Int) = 48
          · go_wp2
            go_ret
            obtain ⟨n, e1, e2, e3⟩ := hend.out
            exact ⟨n, by rw [← e1, ← digT_seven (Or.inr ⟨hk0, by omega⟩)]; rfl, e2, e3, hb⟩
          · go_wp2
            go_ret
            obtain ⟨n, e1, e2, e3⟩ := hend.out
            exact ⟨n, by rw [← e1, ← digT_same hk0 (by omega)]; rfl, e2, e3, hb⟩
    · by_cases h3 : sB = ⟨#[]⟩
      · subst h3
        obtain rfl : k = 0 := hsz.symm
        clear hsz
        go_wp2
        go_ret
        obtain ⟨n, e1, e2, e3⟩ := hend.out
        exact ⟨n, by rw [← e1, ← digT_seven (Or.inl rfl)]; rfl, e2, e3, hb⟩
      · have hk0 : 0 < sB.size := by
          rcases Nat.eq_zero_or_pos sB.size with h | h
          · exact absurd (ByteArray.ext (Array.eq_empty_of_size_eq_zero h)) h3
          · exact h
        have h5 := empty_no h3
        by_cases h4 : ((sB[0].toNat : Nat) : Int) = 48
        · go_wp2
          go_ret
          obtain ⟨n, e1, e2, e3⟩ := hend.out
          exact ⟨n, by rw [← e1, ← digT_seven (Or.inr ⟨hk0, by omega⟩)]; rfl, e2, e3, hb⟩
        · go_wp2
          go_ret
          obtain ⟨n, e1, e2, e3⟩ := hend.out
          exact ⟨n, by rw [← e1, ← digT_same hk0 (by omega)]; rfl, e2, e3, hb⟩
end Go.Proofs.YtnhfdcfnojnofaaGreatDoor

/-
  What the keeper's Long does.
-/
namespace Go.Proofs.YtnhfdcfnojnofaaGreatDoor
open Go.RowKit

theorem mulp {x y m n : Nat} (hx : x < 10 ^ m) (hy : y < 10 ^ n) : x * y < 10 ^ (m + n) := by
  rw [Nat.pow_add]; exact Nat.mul_lt_mul'' hx hy

theorem long_facts (a : Int) (b c : Nat) (ha : a.natAbs < 10 ^ 19) (hb : b < 10 ^ 13) (hc : c < 10 ^ 7) (hb0 : b ≠ 0) :
    ∃ sab sac sbc X Y sq sw swb sr : ByteArray,
      KC 3 (wT a) (wT b) sab ∧ KC 3 (wT a) (wT c) sac ∧ KC 1 (wT b) (wT c) sbc ∧ KC 3 (wT a) sbc X ∧ KC 1 sab sac X ∧ KC 3 (wT b) (wT a) sab ∧ KC 4 sab (wT b) (wT a) ∧ KC 1 (wT b) (wT a) Y ∧ KC 1 (wT a) (wT b) Y ∧
      KC 4 (wT a) (wT b) sq ∧ KC 5 sq ⟨#[48]⟩ sw ∧ KC 3 sw (wT b) swb ∧ KC 2 (wT a) swb sr ∧ KC 6 sr ⟨#[48]⟩ ⟨#[48]⟩ ∧ KC 6 sr (wT b) ⟨#[49]⟩ ∧ KC 2 (wT a) sr swb ∧ sab.toList.isEmpty = false := by
  have h1 : (a * (b : Int)).natAbs < 10 ^ 32 := by rw [Int.natAbs_mul, Int.natAbs_natCast]; exact mulp ha hb
  have h2 : (a * (c : Int)).natAbs < 10 ^ 26 := by rw [Int.natAbs_mul, Int.natAbs_natCast]; exact mulp ha hc
  have h3 : a / (b : Int) * (b : Int) = a - a % (b : Int) := by
    have := Int.mul_ediv_add_emod a (b : Int)
    rw [Int.mul_comm] at this
    omega
  have h4 : 0 ≤ a % (b : Int) := Int.emod_nonneg _ (by omega)
  have h5 : a % (b : Int) < b := Int.emod_lt_of_pos _ (by omega)
  have h6 : (a / (b : Int)).natAbs ≤ a.natAbs := Int.natAbs_ediv_le_natAbs _ _
  refine ⟨wT (a * b), wT (a * c), wT (b + c), wT (a * b + a * c), wT (a + b), ⟨(lowText a b).toArray⟩, wT (a / b), wT (a / b * b), wT (a % b), kc_times _ _ (by omega) (by omega), kc_times _ _ (by omega) (by omega), kc_plus _ _ (by omega) (by omega), ?_, kc_plus _ _ (by omega) (by omega), ?_, kc_back _ _ (by omega) (by omega) hb0, ?_, kc_plus _ _ (by omega) (by omega), kc_over _ _ (by omega) (by omega) hb0, ?_, kc_times _ _ (by omega) (by omega), ?_, ?_, ?_, ?_, ?_⟩
  · rw [← Int.mul_add]; exact kc_times _ _ (by omega) (by omega)
  · rw [Int.mul_comm]; exact kc_times _ _ (by omega) (by omega)
  · rw [Int.add_comm]; exact kc_plus _ _ (by omega) (by omega)
  · have h := kc_floor a b (by omega) (by omega) hb0
    rwa [wT_zero] at h
  · rw [h3]
    have h := kc_minus a (a - a % b) (by omega) (by omega)
    rwa [show a - (a - a % (b : Int)) = a % (b : Int) by omega] at h
  · have h := kc_less (a % b) 0 (by omega) (by decide)
    rwa [if_neg (by omega), wT_zero] at h
  · have h := kc_less (a % b) b (by omega) (by omega)
    rwa [if_pos (by omega), wT_one] at h
  · rw [h3]; exact kc_minus _ _ (by omega) (by omega)
  · exact empty_no (fun e => by have := wT_ne (a * b); rw [e] at this; exact absurd this (by decide))

theorem pow30 {k : Nat} (h : k ≤ 30) : ((10 ^ k : Nat) : Int).natAbs < 10 ^ 40 := by
  rw [Int.natAbs_natCast]
  exact Nat.pow_lt_pow_right (by omega) (by omega)

theorem kc_ten (k : Nat) (h : k ≤ 30) : KC 3 (wT ((10 ^ k : Nat) : Int)) ⟨#[49, 48]⟩ (wT ((10 ^ (k + 1) : Nat) : Int)) := by
  have h1 := kc_times ((10 ^ k : Nat) : Int) 10 (pow30 h) (by decide)
  rw [wT_ten] at h1
  rw [Nat.pow_succ, Int.natCast_mul]
  exact h1

theorem wT_neg (A : Nat) (hA : A ≠ 0) : (⟨#[45]⟩ : ByteArray) ++ wT A = wT (-(A : Int)) := by
  unfold wT
  rw [itoa_nat, Lib.itoa, if_pos (by omega), show (-(A : Int)).natAbs = A by omega]
  exact ba_append [45] _

set_option maxHeartbeats 4000000 in
set_option maxRecDepth 100000 in
theorem long_any (p q r : ByteArray) (neg : Bool) (n : Int) (hp : p.size ≤ 9223372036854775807) (hq : q.size ≤ 9223372036854775807) (hr : r.size ≤ 9223372036854775807) (hn0 : -9223372036854775808 ≤ n) (hn1 : n ≤ 9223372036854775807) (w : World) (hg : Gl w) :
    Calls Tryz.prog 5 #[.string p, .string q, .string r, .bool neg, .int .i64 n] w fun e w' => e = .returned (.bool true) ∧ Below w.heap.size w w' := by
  obtain ⟨N, hN, hpick⟩ : ∃ N : Nat, N < 30 ∧ ∀ W, Calls Tryz.prog 16 #[.int .i64 n, .int .i64 30] W fun e w' => e = .returned (.int .i64 (N : Nat)) ∧ w' = W := by
    have hb := pickZ_bd n (n := 30) (by omega)
    refine ⟨(pickZ n 30).toNat, by omega, fun W => ?_⟩
    rw [Int.toNat_of_nonneg hb.1]
    exact pick_any n 30 hn0 hn1 (by omega) (by omega) W
  have HPK := hide hpick
  clear hpick
  go_enter Tryz.func5, Tryz.ntmps5
  go_wp2_with fail
  refine (digits_any p 18 (by omega) hp _).mono ?_
  rintro e w1 ⟨A, rfl, hA0, hA, hb1⟩
  go_wp2_with fail
  refine (digits_any q 12 (by omega) hq _).mono ?_
  rintro e w2 ⟨B, rfl, hB0, hB, hb2⟩
  have hb2' := hb1.trans (hb2.mono hb1.size)
  clear hb1 hb2
  go_wp2_with fail
  refine (digits_any r 6 (by omega) hr _).mono ?_
  rintro e w3 ⟨C, rfl, hC0, hC, hb3⟩
  have hb3' := hb2'.trans (hb3.mono hb2'.size)
  clear hb2' hb3
  have hszA := wT_size (A : Int) (by rw [Int.natAbs_natCast]; exact Nat.lt_trans hA (by decide))
  have HNG := hide (wT_neg A hA0)
  have HA := hide hA
  have HB := hide hB
  have HC := hide hC
  have HB0 := hide hB0
  clear hA hB hC hB0 hA0 hC0 hp hq hr hn0 hn1
  go_upto_if 31 with fail
  go_cut [11] (fun v wc => ∃ a : Int, v = .string (wT a) ∧ Hid (a.natAbs = A) ∧ w3 = wc)
  case first =>
    cases neg with
    | true =>
      generalize wT (A : Int) = sA at *
      go_wp2_with fail
      all_goals go_meet
      all_goals exact ⟨-(A : Int), by rw [HNG.out], by rw [Hid]; omega, rfl⟩
    | false =>
      go_wp2_with fail
      all_goals go_meet
      all_goals exact ⟨(A : Int), rfl, by rw [Hid]; omega, rfl⟩
  case rest =>
    obtain ⟨a, rfl, haA, rfl⟩ := hcut
    have hane : (wT a).toList.isEmpty = false := empty_no (fun e => by have := wT_ne a; rw [e] at this; exact absurd this (by decide))
    obtain ⟨sab, sac, sbc, X, Y, sq, sw, swb, sr, k1, k2, k3, k4, k5, k6, k7, k8, k9, k10, k11, k12, k13, k14, k15, k16, habne⟩ := long_facts a B C (by rw [haA.out]; exact HA.out) HB.out HC.out HB0.out
    generalize wT a = sa at *
    generalize wT (B : Int) = sb at *
    generalize wT (C : Int) = sc at *
    generalize wT (A : Int) = sA0 at *
    have hg3 := hg.below hb3'
    clear haA HA HB HC HB0 HNG hszA
    go_wp2_with fail
    refine (k1 _ hg3).mono ?_
    rintro e w4 ⟨rfl, hb4⟩
    have hb4' := hb3'.trans (hb4.mono hb3'.size)
    have hg4 := hg.below hb4'
    clear hb3' hb4 hg3
    go_wp2_with fail
    refine (k2 _ hg4).mono ?_
    rintro e w5 ⟨rfl, hb5⟩
    have hb5' := hb4'.trans (hb5.mono hb4'.size)
    have hg5 := hg.below hb5'
    clear hb4' hb5 hg4
    go_wp2_with fail
    refine (k3 _ hg5).mono ?_
    rintro e w6 ⟨rfl, hb6⟩
    have hb6' := hb5'.trans (hb6.mono hb5'.size)
    have hg6 := hg.below hb6'
    clear hb5' hb6 hg5
    go_wp2_with fail
    refine (k4 _ hg6).mono ?_
    rintro e w7 ⟨rfl, hb7⟩
    have hb7' := hb6'.trans (hb7.mono hb6'.size)
    have hg7 := hg.below hb7'
    clear hb6' hb7 hg6
    go_wp2_with fail
    refine (k5 _ hg7).mono ?_
    rintro e w8 ⟨rfl, hb8⟩
    have hb8' := hb7'.trans (hb8.mono hb7'.size)
    have hg8 := hg.below hb8'
    clear hb7' hb8 hg7
    go_wp2_with fail
    refine (k6 _ hg8).mono ?_
    rintro e w9 ⟨rfl, hb9⟩
    have hb9' := hb8'.trans (hb9.mono hb8'.size)
    have hg9 := hg.below hb9'
    clear hb8' hb9 hg8
    go_wp2_with fail
    refine (k7 _ hg9).mono ?_
    rintro e wa ⟨rfl, hba⟩
    have hba' := hb9'.trans (hba.mono hb9'.size)
    have hga := hg.below hba'
    clear hb9' hba hg9
    go_wp2_with fail
    refine (k8 _ hga).mono ?_
    rintro e wb ⟨rfl, hbb⟩
    have hbb' := hba'.trans (hbb.mono hba'.size)
    have hgb := hg.below hbb'
    clear hba' hbb hga
    go_wp2_with fail
    refine (k9 _ hgb).mono ?_
    rintro e wc ⟨rfl, hbc⟩
    have hbc' := hbb'.trans (hbc.mono hbb'.size)
    have hgc := hg.below hbc'
    clear hbb' hbc hgb
    go_wp2_with fail
    refine (k10 _ hgc).mono ?_
    rintro e wd ⟨rfl, hbd⟩
    have hbd' := hbc'.trans (hbd.mono hbc'.size)
    have hgd := hg.below hbd'
    clear hbc' hbd hgc
    go_wp2_with fail
    refine (k11 _ hgd).mono ?_
    rintro e we ⟨rfl, hbe⟩
    have hbe' := hbd'.trans (hbe.mono hbd'.size)
    have hge := hg.below hbe'
    clear hbd' hbe hgd
    go_wp2_with fail
    refine (k12 _ hge).mono ?_
    rintro e wf ⟨rfl, hbf⟩
    have hbf' := hbe'.trans (hbf.mono hbe'.size)
    have hgf := hg.below hbf'
    clear hbe' hbf hge
    go_wp2_with fail
    refine (k13 _ hgf).mono ?_
    rintro e wg ⟨rfl, hbg⟩
    have hbg' := hbf'.trans (hbg.mono hbf'.size)
    have hgg := hg.below hbg'
    clear hbf' hbg hgf
    go_wp2_with fail
    refine (k14 _ hgg).mono ?_
    rintro e wh ⟨rfl, hbh⟩
    have hbh' := hbg'.trans (hbh.mono hbg'.size)
    have hgh := hg.below hbh'
    clear hbg' hbh hgg
    go_wp2_with fail
    refine (k15 _ hgh).mono ?_
    rintro e wi ⟨rfl, hbi⟩
    have hbi' := hbh'.trans (hbi.mono hbh'.size)
    have hgi := hg.below hbi'
    clear hbh' hbi hgh
    go_wp2_with fail
    refine (k16 _ hgi).mono ?_
    rintro e wj ⟨rfl, hbj⟩
    have hbj' := hbi'.trans (hbj.mono hbi'.size)
    have hgj := hg.below hbj'
    clear hbi' hbj hgi
    go_wp2_with fail
    refine (k12 _ hgj).mono ?_
    rintro e wk ⟨rfl, hbk⟩
    have hbk' := hbj'.trans (hbk.mono hbj'.size)
    clear hbj' hbk hgj k1 k2 k3 k4 k5 k6 k7 k8 k9 k10 k11 k12 k13 k14 k15 k16
    go_wp2_with fail
    go_loopw [22, 23, 24] (fun sv tv iv wr => ∃ (k : Nat) (tB : ByteArray), k ≤ N ∧ tB.size ≤ 41 ∧ Hid (tB = wT ((10 ^ k : Nat) : Int)) ∧ sv = .string tB ∧ tv = .string tB ∧ iv = .int .i64 (k : Nat) ∧ Below w.heap.size w wr) (fun _ _ iv _ => ((N : Int) - intOf iv).toNat)
    case atStart => exact ⟨0, ⟨#[49]⟩, by omega, by decide, by rw [Hid]; exact wT_one.symm, rfl, rfl, rfl, hbk'⟩
    case round =>
      obtain ⟨k, tB, hk, hsz, HT, rfl, rfl, rfl, hb⟩ := hrel
      have hgr := hg.below hb
      go_wp2_with fail
      refine (HPK.out _).mono ?_
      rintro e wl ⟨rfl, rfl⟩
      by_cases hkN : k < N
      · have hten := kc_ten k (by omega)
        rw [← HT.out] at hten
        have hpow := wT_pow k
        rw [← HT.out] at hpow
        have HW := hide hpow
        have hsz2 := wT_size _ (pow30 (k := k + 1) (by omega))
        have HT2 : ∃ tC : ByteArray, tC = wT ((10 ^ (k + 1) : Nat) : Int) := ⟨_, rfl⟩
        obtain ⟨tC, htC⟩ := HT2
        rw [← htC] at hten HW hsz2
        have HTC := hide htC
        clear hpow htC
        go_wp2_with fail
        refine (hten _ hgr).mono ?_
        rintro e wm ⟨rfl, hbm⟩
        have hbm' := hb.trans (hbm.mono hb.size)
        clear hten
        go_wp2
        go_roundw
        case rel => exact ⟨k + 1, tC, by omega, hsz2, HTC, rfl, by rw [HW.out], by go_num, hbm'⟩
        case measure => simp [intOf]; omega
      · go_wp2
        go_ret
        exact ⟨rfl, hb⟩
end Go.Proofs.YtnhfdcfnojnofaaGreatDoor
