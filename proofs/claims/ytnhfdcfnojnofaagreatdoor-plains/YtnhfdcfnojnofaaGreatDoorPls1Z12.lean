/-
  Part 12 of the texts ahead of Pls1: Tr5, Tr6, Tr7, Kee1, Txt9, Num3, Nat12, Nat15, Txt10, Kee2, Kee4.
-/
import Derived.Test.YtnhfdcfnojnofaaGreatDoorPls1Z11
import Derived.Test.YtnhfdcfnojnofaaGreatDoorPls1Z7
import Derived.Test.YtnhfdcfnojnofaaGreatDoorPls1Z3
import Derived.Test.YtnhfdcfnojnofaaGreatDoorShelf
import Derived.Lib.AppendIntMem
import Derived.WalkSmall
import Derived.Test.YtnhfdcfnojnofaaGreatDoorPls1Z8
import Derived.Lib.IndexMore
import Derived.Test.YtnhfdcfnojnofaaGreatDoorPls1Z4
import Derived.Test.YtnhfdcfnojnofaaGreatDoorPls1Z6
import Derived.Lib.BitFns
set_option linter.unusedSimpArgs false
set_option linter.unusedVariables false
/-
  What the document's own divided does (package planesref).
-/
namespace Go.Proofs.YtnhfdcfnojnofaaGreatDoor.T
open Go.RowKit

theorem toDrewN {B : Nat} {a w : World} (h : Below B a w) (q : Nat) : Below B a (w.drewN q) := ⟨h.os, h.tape, h.output, h.size, h.block⟩

theorem cmpI_le {a b : Nat} : cmpI a b ≤ 0 ↔ a ≤ b := by
  unfold cmpI
  split
  · omega
  · split <;> omega

theorem div_round {x D n Q r R lo : Nat} (h : D = n * Q + r) (hR : R = x + 10000 * r) (hlo : n * lo ≤ R) : x + 10000 * D = n * (lo + 10000 * Q) + (R - n * lo) := by
  have h1 : n * (lo + 10000 * Q) = n * lo + 10000 * (n * Q) := by rw [Nat.mul_add, Nat.mul_left_comm]
  rw [h1]
  omega

theorem rest_bd {x n r : Nat} (hx : x < 10000) (hr : r < n) : x + 10000 * r < n * 10000 := by omega

theorem dig_cons {x : Nat} {ds : List Nat} (hx : x < 10000) (h : Dig ds) : Dig (x :: ds) := fun d hm => by
  rcases List.mem_cons.1 hm with rfl | h'
  · exact hx
  · exact h d h'

theorem mid_bd {lo hi : Nat} (h : lo < hi) : lo < (lo + hi + 1) / 2 ∧ (lo + hi + 1) / 2 ≤ hi := by omega

set_option maxHeartbeats 8000000 in
set_option maxRecDepth 100000 in
theorem divided_any (w : World) (u v : Value) (m n K : Nat) (hu : NV w u m) (hv : NV w v n) (hm : m < 10000 ^ K) (hn : n < 10000 ^ K) (hn0 : n ≠ 0) (hK : K ≤ 100000000) :
    Calls Tryz.prog 188 #[u, v] w fun e w' => ∃ x y, e = .returned (.tuple #[x, y]) ∧ NV w' x (m / n) ∧ NV w' y (m % n) ∧ Below w.heap.size w w' := by
  obtain ⟨i0, hi, hz0, hz1, hz2⟩ := info_parts Tryz.infoInt
  obtain ⟨ds, hs, hd, ht, hmv⟩ := hu
  have hl := top_len ht (by rw [hmv]; exact hm)
  obtain ⟨ao, cap, rfl, hc⟩ := hs.shape
  have HMV := hide hmv
  have HN := hide hn
  have HN0 := hide hn0
  clear hm hn ht hmv hn0
  go_enter Tryz.func188, Tryz.ntmps188
  go_wp2
  go_loopw [6, 7, 8] (fun qv rv iv wr => ∃ (k r : Nat) (qs : List Nat), k ≤ ds.length ∧ iv = .int .i64 ((k : Int) - 1) ∧ NV wr rv r ∧ Hid (r < n) ∧ Sl wr qv qs ∧ Dig qs ∧ qs.length + k = ds.length ∧ Hid (val (ds.drop k) = n * val qs + r) ∧ Below w.heap.size w wr) (fun _ _ iv _ => (intOf iv + 1).toNat)
  case atStart => exact ⟨ds.length, 0, [], Nat.le_refl _, rfl, NV.zero _, by rw [Hid]; exact Nat.pos_of_ne_zero HN0.out, sl_empty _, fun d hd => by simp at hd, by simp, by rw [Hid, List.drop_of_length_le (Nat.le_refl _)]; simp [val], Below.refl _ _⟩
  case round =>
    obtain ⟨k, r, qs, hk, rfl, hr, hrn, hqs, hqd, hql, hdv, hbel⟩ := hrel
    obtain ⟨ap, kp, rfl, hqk⟩ := hqs.shape
    cases k with
    | zero =>
      have hdm : m / n = val qs ∧ m % n = r := by
        have h1 := hdv.out
        rw [List.drop_zero, HMV.out] at h1
        refine ⟨?_, ?_⟩
        · rw [h1, Nat.mul_add_div (Nat.pos_of_ne_zero HN0.out), Nat.div_eq_of_lt hrn.out, Nat.add_zero]
        · rw [h1, Nat.mul_add_mod, Nat.mod_eq_of_lt hrn.out]
      have HD := hide hdm
      obtain ⟨rs, hrs, hrd, hrt, hrv⟩ := hr
      obtain ⟨ap2, kp2, rfl, hrk⟩ := hrs.shape
      have HRV := hide hrv
      clear hdm hrv
      go_wp2_with fail
      refine (trim_any _ _ qs hqs (by omega)).mono ?_
      rintro e w3 ⟨⟨x, rfl, hx⟩, rfl⟩
      go_wp2
      go_ret2
      refine ⟨x, _, rfl, nv_trim hx hqd (by rw [HD.out.1]), ⟨rs, hrs, hrd, hrt, ?_⟩, hbel⟩
      rw [HRV.out, HD.out.2]
    | succ k =>
      obtain ⟨b, off, rfl, hb, hrow⟩ := hs.row (by intro e; simp [e] at hk)
      have hck := (hbel.cell (p := ⟨b, off + k, none⟩) hb).trans (hrow k (by omega))
      have hdk := hd.get k
      have HDR := hide (val_drop ds k (by omega))
      generalize ds.getD k 0 = x at *
      obtain ⟨rs, hrs, hrd, hrt, hrv⟩ := hr
      obtain ⟨ap2, kp2, rfl, hrk⟩ := hrs.shape
      have HRV := hide hrv
      have hrl := top_len hrt (k := K) (by rw [hrv]; exact Nat.lt_trans hrn.out HN.out)
      clear hrv
      go_wp2_with (at_builtin; refine wpList_append_own _ rfl _ _ 35 rfl wr.heap.size 3 i0 (.int .i64 0) 1 8 Tryz.underlying35 hi hz0 hz1 hz2 rfl (by decide) (.slice none 0 0) 0 [] rfl (World.ownsRow_nil _ _ _ _) ⟨wr.heap.size, 0, none⟩ 1 1 [.int .i64 (x : Int)] rfl rfl (cell_one_new _ _ _) ?c2 (by unfold maxLen; omega) (by omega) (by simp) ?_)
      case c2 => first | rfl | (intro u hu; simp at hu; subst hu; rfl)
      intro v3 w3 hown3 hgrow hnn
      obtain ⟨g3, cap3, hvv, _⟩ := owns_parts (ds := [x]) hown3 hnn
      subst hvv
      have hb3 : Below wr.heap.size wr w3 := ((Below.refl _ _).alloc (Nat.le_refl _) _).grown hgrow (by simp) (fun k h => by simp [Value.ownBlock] at h)
      have hrs3 := hrs.below hb3
      clear hgrow hnn
      go_wp2_with (at_builtin; refine append_sl rfl _ _ rfl wr.heap.size hb3.size (some ⟨g3, 0, none⟩) cap3 [x] rfl hown3 _ rs rfl hrs3 (by simp; omega) ?_)
      intro ap' kp' w4 hown4 hbb
      have hb4 := hbb wr.heap.size wr hb3 (Nat.le_refl _)
      have hsl4 : Sl w4 (.slice ap' (rs.length + 1) kp') (x :: rs) := sl_of_owns (os := x :: rs) hown4
      clear hbb hown4 hown3 hb3 hrs3
      go_wp2_with fail
      refine (trim_any _ _ (x :: rs) hsl4 (by simp; omega)).mono ?_
      rintro e w5 ⟨⟨rv, rfl, hrv5⟩, rfl⟩
      obtain ⟨R, hR⟩ : ∃ R, R = x + 10000 * r := ⟨_, rfl⟩
      have hRv : NV w5 rv R := nv_trim hrv5 (dig_cons hdk hrd) (by rw [hR, ← HRV.out]; rfl)
      have hRb : R < n * 10000 := by rw [hR]; exact rest_bd hdk hrn.out
      have hRK : R < 10000 ^ (K + 1) := by
        rw [Nat.pow_succ]
        exact Nat.lt_of_lt_of_le hRb (Nat.mul_le_mul_right _ (Nat.le_of_lt HN.out))
      have HR := hide hR
      have HRB := hide hRb
      have HRK := hide hRK
      have hqs5 := hqs.below hb4
      have hbel5 := hbel.trans (hb4.mono hbel.size)
      have hv5 := hv.below hbel5
      clear hR hRb hRK hrv5 hsl4 hb4 hck hqs hrs hrk
      go_wp2_with fail
      go_loopw [10, 11] (fun lv hv wq => ∃ (lo hh : Nat), lo ≤ hh ∧ hh ≤ 9999 ∧ lv = .int .i64 (lo : Nat) ∧ hv = .int .i64 (hh : Nat) ∧ Hid (n * lo ≤ R) ∧ Hid (R < n * (hh + 1)) ∧ Below w5.heap.size w5 wq) (fun lv hv _ => (intOf hv - intOf lv).toNat)
      case atStart => exact ⟨0, 9999, by omega, by omega, rfl, rfl, by simp [Hid], HRB, Below.refl _ _⟩
      case round =>
        obtain ⟨lo, hh, hlh, hh9, rfl, rfl, hlo, hhi, hbq⟩ := hrel
        by_cases hlt : lo < hh
        · have hmb := mid_bd hlt
          obtain ⟨md, hmd⟩ : ∃ md, md = (lo + hh + 1) / 2 := ⟨_, rfl⟩
          rw [← hmd] at hmb
          have hmi : ((lo : Int) + (hh : Int) + 1) / 2 = (md : Int) := by rw [hmd]; omega
          have hlti : (lo : Int) < (hh : Int) := by omega
          have HMD := hide hmd
          clear hmd
          have hvq := hv5.below hbq
          have hRq := hRv.below hbq
          go_wp2_with fail
          refine (times_any _ _ n md K hvq (by omega) HN.out (by omega)).mono ?_
          rintro e w6 ⟨xv, rfl, hxv, hb6⟩
          have hR6 := hRq.below hb6
          have hbq6 := hbq.trans (hb6.mono hbq.size)
          have hnm : n * md < 10000 ^ (K + 1) := by
            rw [Nat.pow_succ]
            exact Nat.mul_lt_mul'' HN.out (by omega)
          clear hb6 hRq hvq
          go_wp2_with fail
          refine (compare_any _ _ _ (n * md) R (K + 1) hxv hR6 hnm HRK.out (by omega)).mono ?_
          rintro e w7 ⟨rfl, q7, rfl⟩
          have hbq7 := toDrewN hbq6 q7
          clear hnm hbq6 hxv hR6 hbq
          by_cases hle : n * md ≤ R
          · have hz := cmpI_le.2 hle
            have HLE := hide hle
            generalize cmpI (n * md) R = z at *
            clear hle
            go_wp2
            go_roundw
            case rel => exact ⟨md, hh, by omega, hh9, by go_num, rfl, HLE, hhi, hbq7⟩
            case measure => simp [intOf]; omega
          · have hz : 0 < cmpI (n * md) R := by
              rcases Int.lt_or_le 0 (cmpI (n * md) R) with h | h
              · exact h
              · exact absurd (cmpI_le.1 h) hle
            have HLE := hide hle
            generalize cmpI (n * md) R = z at *
            clear hle
            go_wp2
            go_roundw
            case rel => exact ⟨lo, md - 1, by omega, by omega, rfl, by go_num, hlo, by rw [Hid, show md - 1 + 1 = md by omega]; have := HLE.out; omega, hbq7⟩
            case measure => simp [intOf]; omega
        · obtain rfl : lo = hh := by omega
          have hvq := hv5.below hbq
          have hRq := hRv.below hbq
          clear hRv hv5
          go_wp2_with fail
          refine (times_any _ _ n lo K hvq (by omega) HN.out (by omega)).mono ?_
          rintro e w6 ⟨xv, rfl, hxv, hb6⟩
          have hR6 := hRq.below hb6
          have hbq6 := hbq.trans (hb6.mono hbq.size)
          clear hb6 hRq hvq hbq
          go_wp2_with fail
          refine (less_any _ _ _ R (n * lo) (K + 1) hR6 hxv HRK.out hlo.out (by omega)).mono ?_
          rintro e w7 ⟨nv, rfl, hnv, hb7⟩
          have hbq7 := hbq6.trans (hb7.mono hbq6.size)
          have hq7 := hqs5.below hbq7
          have hbel7 := hbel5.trans (hbq7.mono hbel5.size)
          clear hb7 hbq6 hR6 hxv hqs5 hbq7 hbel5
          go_wp2_with (at_builtin; refine wpList_append_own _ rfl _ _ 35 rfl w7.heap.size 3 i0 (.int .i64 0) 1 8 Tryz.underlying35 hi hz0 hz1 hz2 rfl (by decide) (.slice none 0 0) 0 [] rfl (World.ownsRow_nil _ _ _ _) ⟨w7.heap.size, 0, none⟩ 1 1 [.int .i64 (lo : Int)] rfl rfl (cell_one_new _ _ _) ?c2 (by unfold maxLen; omega) (by omega) (by simp) ?_)
          case c2 => first | rfl | (intro u hu; simp at hu; subst hu; rfl)
          intro v8 w8 hown8 hgrow hnn
          obtain ⟨g8, cap8, hvv, _⟩ := owns_parts (ds := [lo]) hown8 hnn
          subst hvv
          have hb8 : Below w7.heap.size w7 w8 := ((Below.refl _ _).alloc (Nat.le_refl _) _).grown hgrow (by simp) (fun k h => by simp [Value.ownBlock] at h)
          have hq8 := hq7.below hb8
          clear hgrow hnn hq7
          go_wp2_with (at_builtin; refine append_sl rfl _ _ rfl w7.heap.size hb8.size (some ⟨g8, 0, none⟩) cap8 [lo] rfl hown8 _ qs rfl hq8 (by simp; omega) ?_)
          intro ap9 kp9 w9 hown9 hbb
          have hb9 := hbb w7.heap.size w7 hb8 (Nat.le_refl _)
          have hsl9 : Sl w9 (.slice ap9 (qs.length + 1) kp9) (lo :: qs) := sl_of_owns (os := lo :: qs) hown9
          have hn9 := hnv.below hb9
          have hbel9 := hbel7.trans (hb9.mono hbel7.size)
          have HNR : Hid (R - n * lo < n) := by
            have h1 := hhi.out
            have h2 := hlo.out
            rw [Nat.mul_add, Nat.mul_one] at h1
            rw [Hid]
            omega
          have HDV : Hid (val (ds.drop k) = n * val (lo :: qs) + (R - n * lo)) := by
            rw [Hid, HDR.out]
            exact div_round hdv.out HR.out hlo.out
          clear hbb hown9 hown8 hb8 hq8 hnv hb9 hbel7 hlo hhi
          go_wp2
          go_roundw
          case rel => exact ⟨k, R - n * lo, lo :: qs, by omega, by go_num, hn9, HNR, hsl9, dig_cons (by omega) hqd, by simp; omega, HDV, hbel9⟩
          case measure => simp [intOf]
end Go.Proofs.YtnhfdcfnojnofaaGreatDoor.T

/-
  What the document's own lowest, Of, Turned, Sign, Whole do (package planesref).
-/
namespace Go.Proofs.YtnhfdcfnojnofaaGreatDoor.T
open Go.RowKit

theorem NV.setCell {w : World} {v : Value} {n : Nat} (h : NV w v n) {a : Addr} {y : Value} (hy : w.cell? a = some y) (hn : ∀ k, y ≠ .int .i64 k) (x : Value) : NV (w.setCell a x) v n := by
  obtain ⟨ds, hs, h2⟩ := h
  refine ⟨ds, ?_, h2⟩
  rcases hs with hs | ⟨b, off, cap, hv, hc, hb, hrow, hkd⟩
  · exact Or.inl hs
  · refine Or.inr ⟨b, off, cap, hv, hc, by simpa using hb, fun i hi => ?_, hkd.setCell _ _⟩
    rw [World.cell?_setCell_other _ _ _ _ (by
      intro he
      have := hrow i hi
      rw [← he, hy, Option.some.injEq] at this
      exact hn _ this)]
    exact hrow i hi

theorem NV.slice {w : World} {v : Value} {n : Nat} (h : NV w v n) : ∃ ao l cap, v = .slice ao l cap := by
  obtain ⟨ds, hs, _⟩ := h
  obtain ⟨ao, cap, rfl, _⟩ := hs.shape
  exact ⟨_, _, _, rfl⟩

/-- A struct value that stands for the number p / q. -/
def NumV (w : World) (x : Value) (p : Int) (q : Nat) : Prop :=
  ∃ b v u, x = .agg #[.bool b, v, u] ∧ NV w v p.natAbs ∧ Hid (b = decide (p < 0)) ∧ NV w u q ∧ 0 < q

theorem NumV.below {w w' : World} {x : Value} {p : Int} {q : Nat} (h : NumV w x p q) (hb : Below w.heap.size w w') : NumV w' x p q := by
  obtain ⟨b, v, u, h1, h2, h3, h4, h5⟩ := h
  exact ⟨b, v, u, h1, h2.below hb, h3, h4.below hb, h5⟩
theorem NumV.alloc {w : World} {x : Value} {p : Int} {q : Nat} (h : NumV w x p q) (o : Obj) : NumV (w.alloc o) x p q := h.below ((Below.refl _ _).alloc (Nat.le_refl _) o)
theorem NumV.parts {w : World} {x : Value} {p : Int} {q : Nat} (h : NumV w x p q) : ∃ b ao l cap ao' l' cap', x = .agg #[.bool b, .slice ao l cap, .slice ao' l' cap'] ∧ NV w (.slice ao l cap) p.natAbs ∧ Hid (b = decide (p < 0)) ∧ NV w (.slice ao' l' cap') q ∧ 0 < q := by
  obtain ⟨b, v, u, h1, h2, h3, h4, h5⟩ := h
  obtain ⟨ao, l, cap, rfl⟩ := h2.slice
  obtain ⟨ao', l', cap', rfl⟩ := h4.slice
  exact ⟨b, ao, l, cap, ao', l', cap', h1, h2, h3, h4, h5⟩

/-- A number laid into a box of its own and read from there. -/
theorem numV_boxed {w : World} {g : Nat} {b0 b : Bool} {a0 a1 : Option Addr} {l0 c0 l1 c1 : Nat} {v u : Value} {p : Int} {q : Nat} (hv : NV w v p.natAbs) (hb : Hid (b = decide (p < 0))) (hu : NV w u q) (hq : 0 < q)
    (h0 : w.cell? ⟨g, 0, none⟩ = some (.bool b0)) (h1 : w.cell? ⟨g, 1, none⟩ = some (.slice a0 l0 c0)) (h2 : w.cell? ⟨g, 2, none⟩ = some (.slice a1 l1 c1)) :
    NumV (((w.setCell ⟨g, 0, none⟩ (.bool b)).setCell ⟨g, 1, none⟩ v).setCell ⟨g, 2, none⟩ u) (.agg #[.bool b, v, u]) p q := by
  have e1 : (w.setCell ⟨g, 0, none⟩ (.bool b)).cell? ⟨g, 1, none⟩ = some (.slice a0 l0 c0) := by rw [World.cell?_setCell_other _ _ _ _ (by simp)]; exact h1
  have e2 : ((w.setCell ⟨g, 0, none⟩ (.bool b)).setCell ⟨g, 1, none⟩ v).cell? ⟨g, 2, none⟩ = some (.slice a1 l1 c1) := by
    rw [World.cell?_setCell_other _ _ _ _ (by simp), World.cell?_setCell_other _ _ _ _ (by simp)]; exact h2
  exact ⟨b, v, u, rfl, ((hv.setCell h0 (by simp) _).setCell e1 (by simp) _).setCell e2 (by simp) _, hb, ((hu.setCell h0 (by simp) _).setCell e1 (by simp) _).setCell e2 (by simp) _, hq⟩

theorem nv_len {w : World} {ao : Option Addr} {l cap n K : Nat} (h : NV w (.slice ao l cap) n) (hn : n < 10000 ^ K) : l ≤ K ∧ (l = 0 ↔ n = 0) := by
  obtain ⟨ds, hs, hd, ht, rfl⟩ := h
  obtain ⟨ao', cap', he, hc⟩ := hs.shape
  simp only [Value.slice.injEq] at he
  obtain ⟨_, rfl, _⟩ := he
  refine ⟨top_len ht hn, ?_⟩
  rw [List.length_eq_zero_iff]
  exact (top_zero ht).symm

theorem gcd_step (a b : Nat) : Nat.gcd b (a % b) = Nat.gcd a b := by rw [Nat.gcd_comm b, ← Nat.gcd_rec, Nat.gcd_comm]

theorem sg_div (neg : Bool) (n g : Nat) (h : g ∣ n) : sg neg n / (g : Int) = sg neg (n / g) := by
  cases neg
  · simp [sg]
  · simp only [sg, if_true]
    rw [Int.neg_ediv_of_dvd (Int.ofNat_dvd.2 h)]
    rfl

theorem sg_flag (neg : Bool) (n : Nat) : decide (sg neg n < 0) = (neg && decide (n ≠ 0)) := by
  have h : sg true n < 0 ↔ n ≠ 0 := by simp only [sg, if_true]; omega
  cases neg
  · simp [sg]
  · simp [h]

set_option maxHeartbeats 2000000 in
set_option maxRecDepth 100000 in
theorem lowest_any (w : World) (neg : Bool) (u v : Value) (m n K : Nat) (hu : NV w u m) (hv : NV w v n) (hm : m < 10000 ^ K) (hn : n < 10000 ^ K) (hn0 : n ≠ 0) (hK : K ≤ 100000000) :
    Calls Tryz.prog 183 #[.bool neg, u, v] w fun e w' => ∃ x, e = .returned x ∧ NumV w' x (sg neg m / (Nat.gcd m n : Int)) (n / Nat.gcd m n) ∧ Below w.heap.size w w' := by
  have hbox : Box3 (w.alloc (.cells #[.bool false, .slice none 0 0, .slice none 0 0] 118)) w.heap.size (.bool false) (.slice none 0 0) (.slice none 0 0) := Box3.new _ _ _ _ _
  have hbW : Below w.heap.size w (w.alloc (.cells #[.bool false, .slice none 0 0, .slice none 0 0] 118)) := (Below.refl _ _).alloc (Nat.le_refl _) _
  have HM := hide hm
  have HN := hide hn
  have HN0 := hide hn0
  obtain ⟨ao, l, cap, rfl⟩ := hu.slice
  obtain ⟨ao', l', cap', rfl⟩ := hv.slice
  clear hm hn hn0
  go_enter Tryz.func183, Tryz.ntmps183
  go_wp2
  generalize hwA : w.alloc (.cells #[.bool false, .slice none 0 0, .slice none 0 0] 118) = wA at *
  go_loopg [7, 8] n (fun b av bv wr => ∃ (a : Nat) (bo : Option Addr) (bl bc : Nat) (co : Option Addr) (cl cc : Nat), av = .slice co cl cc ∧ bv = .slice bo bl bc ∧ NV wr (.slice co cl cc) a ∧ NV wr (.slice bo bl bc) b ∧ Hid (a < 10000 ^ K) ∧ Hid (b < 10000 ^ K) ∧ Hid (Nat.gcd a b = Nat.gcd m n) ∧ Below wA.heap.size wA wr)
  case atStart => exact ⟨m, _, _, _, _, _, _, rfl, rfl, hu.below hbW, hv.below hbW, HM, HN, rfl, Below.refl _ _⟩
  case round =>
    obtain ⟨a, bo, bl, bc, co, cl, cc, rfl, rfl, ha, hb, haK, hbK, hg, hbel⟩ := hrel
    have hbl := nv_len hb hbK.out
    by_cases hb0 : gk = 0
    · have hbl0 : bl = 0 := hbl.2.2 hb0
      subst hbl0
      have hag : a = Nat.gcd m n := by
        have := hg.out
        rw [hb0, Nat.gcd_zero_right] at this
        exact this
      have hgp : 0 < Nat.gcd m n := Nat.gcd_pos_of_pos_right _ (Nat.pos_of_ne_zero HN0.out)
      have HAG := hide hag
      have HGP := hide hgp
      have HSD := hide (sg_div neg m (Nat.gcd m n) (Nat.gcd_dvd_left _ _))
      have HND : Hid (0 < n / Nat.gcd m n) := Nat.div_pos (Nat.le_of_dvd (Nat.pos_of_ne_zero HN0.out) (Nat.gcd_dvd_right _ _)) hgp
      have hu1 := (hu.below hbW).below hbel
      have hv1 := (hv.below hbW).below hbel
      have hboxR := hbox.below hbel
      have hbelW := hbW.trans (hbel.mono hbW.size)
      clear hb0 hag hgp hbl hb hbK
      go_wp2_with fail
      refine (divided_any _ _ _ m a K hu1 ha HM.out haK.out (by rw [HAG.out]; exact Nat.pos_iff_ne_zero.1 HGP.out) hK).mono ?_
      rintro e w2 ⟨x2, y2, rfl, hx2, hy2, hb2⟩
      obtain ⟨o2, l2, c2, rfl⟩ := hx2.slice
      obtain ⟨p2, k2, d2, rfl⟩ := hy2.slice
      have ha2 := ha.below hb2
      have hv2 := hv1.below hb2
      have hbox2 := hboxR.below hb2
      have hbel2 := hbelW.trans (hb2.mono hbelW.size)
      clear hb2 hu1 hv1 hboxR hbelW hy2 ha
      go_wp2_with fail
      refine (divided_any _ _ _ n a K hv2 ha2 HN.out haK.out (by rw [HAG.out]; exact Nat.pos_iff_ne_zero.1 HGP.out) hK).mono ?_
      rintro e w3 ⟨x3, y3, rfl, hx3, hy3, hb3⟩
      obtain ⟨o3, l3, c3, rfl⟩ := hx3.slice
      obtain ⟨p3, k3, d3, rfl⟩ := hy3.slice
      have hx23 := hx2.below hb3
      have hbox3 := hbox2.below hb3
      have hbel3 := hbel2.trans (hb3.mono hbel2.size)
      obtain ⟨f0, f1, f2, f3, f4, f5, f6⟩ := hbox3
      have hll := nv_len hx23 (Nat.lt_of_le_of_lt (Nat.div_le_self m a) HM.out)
      rw [HAG.out] at hx3 hx23 hll
      clear hb3 hv2 ha2 hbox2 hbel2 hy3 hx2 haK
      have hflag := sg_flag neg (m / Nat.gcd m n)
      have HNV1 : Hid (NV w3 (.slice o2 l2 c2) (sg neg m / (Nat.gcd m n : Int)).natAbs) := by
        rw [Hid, HSD.out, sg_abs]
        exact hx23
      cases neg with
      | false =>
        have HFL : Hid (false = decide (sg false m / (Nat.gcd m n : Int) < 0)) := by rw [Hid, HSD.out, hflag]; rfl
        clear hflag HSD
        go_wp2
        exact bodyPost_ret (v := .agg #[.bool false, .slice o2 l2 c2, .slice o3 l3 c3]) (by simp [results, Tryz.results183, go_sem, f0, f1, f2]) rfl ⟨_, rfl, numV_boxed HNV1.out HFL hx3 HND.out f0 f1 f2,
          ((hbel3.setCell (by simp) _).setCell (by simp) _).setCell (by simp) _⟩
      | true =>
        have HFL : Hid (decide (0 < l2) = decide (sg true m / (Nat.gcd m n : Int) < 0)) := by
          rw [Hid, HSD.out, hflag, Bool.true_and]
          exact decide_eq_decide.2 ⟨fun h e => by have := hll.2.2 e; omega, fun h => Nat.pos_of_ne_zero fun e => h (hll.2.1 e)⟩
        clear hflag HSD hll
        go_wp2
        exact bodyPost_ret (v := .agg #[.bool (decide (0 < l2)), .slice o2 l2 c2, .slice o3 l3 c3]) (by simp [results, Tryz.results183, go_sem, f0, f1, f2]) rfl ⟨_, rfl, numV_boxed HNV1.out HFL hx3 HND.out f0 f1 f2,
          ((hbel3.setCell (by simp) _).setCell (by simp) _).setCell (by simp) _⟩
    · have hbp : (0 : Int) < (bl : Int) := by have := fun h => hb0 (hbl.2.1 h); omega
      have HG : Hid (Nat.gcd gk (a % gk) = Nat.gcd m n) := by rw [Hid, gcd_step]; exact hg.out
      have HK2 : Hid (a % gk < 10000 ^ K) := Nat.lt_of_le_of_lt (Nat.mod_le _ _) haK.out
      have HLT : Hid (a % gk < gk) := Nat.mod_lt _ (Nat.pos_of_ne_zero hb0)
      go_wp2_with fail
      refine (divided_any _ _ _ a gk K ha hb haK.out hbK.out hb0 hK).mono ?_
      rintro e w2 ⟨x2, y2, rfl, hx2, hy2, hb2⟩
      obtain ⟨o2, l2, c2, rfl⟩ := hx2.slice
      obtain ⟨p2, k2, d2, rfl⟩ := hy2.slice
      have hb' := hb.below hb2
      have hbel2 := hbel.trans (hb2.mono hbel.size)
      clear hb2 hb ha hbel hbl hb0 hg
      go_wp2
      go_roundg (a % gk)
      case measure => exact HLT.out
      case rel => exact ⟨gk, _, _, _, _, _, _, rfl, rfl, hb', hy2, hbK, HK2, HG, hbel2⟩
end Go.Proofs.YtnhfdcfnojnofaaGreatDoor.T

/-
  What the document's own Of, Turned, Sign, Whole do (package planesref).
-/
namespace Go.Proofs.YtnhfdcfnojnofaaGreatDoor.T
open Go.RowKit

theorem top_one {n : Nat} (h : n ≠ 0) : Top [n] := by
  intro k hk
  obtain rfl : k = 0 := by simpa using hk
  simpa using h

theorem dig_one {n : Nat} (h : n < 10000) : Dig [n] := fun d hd => by simp at hd; omega

theorem nv_new (w : World) (n : Nat) (h0 : n ≠ 0) (h : n < 10000) : NV (w.alloc (.cells #[.int .i64 (n : Int)] 3)) (.slice (some ⟨w.heap.size, 0, none⟩) 1 1) n := by
  refine ⟨[n], Or.inr ⟨w.heap.size, 0, 1, rfl, Nat.le_refl _, by simp, fun i hi => ?_, ⟨_, _, heap_alloc_new _ _⟩⟩, dig_one h, top_one h0, val_one n⟩
  obtain rfl : i = 0 := by simpa using hi
  simp

set_option maxHeartbeats 1000000 in
set_option maxRecDepth 100000 in
theorem turned_any (w : World) (x : Value) (p : Int) (q : Nat) (h : NumV w x p q) (K : Nat) (hp : p.natAbs < 10000 ^ K) :
    Calls Tryz.prog 104 #[x] w fun e w' => ∃ y, e = .returned y ∧ NumV w' y (-p) q ∧ Below w.heap.size w w' := by
  obtain ⟨b, ao, l, cap, ao', l', cap', rfl, hv, hb, hu, hq⟩ := h.parts
  have hll := nv_len hv hp
  have HA : Hid (NV w (.slice ao l cap) (-p).natAbs) := by rw [Hid, Int.natAbs_neg]; exact hv
  cases b with
  | true =>
    have HFL : Hid (false = decide (-p < 0)) := by
      have := hb.out
      simp at this
      rw [Hid]
      simp
      omega
    clear hll
    go_enter Tryz.func104, Tryz.ntmps104
    go_wp2
    exact bodyPost_ret (v := .agg #[.bool false, .slice ao l cap, .slice ao' l' cap']) (by simp [results, Tryz.results104, go_sem]) rfl ⟨_, rfl, ⟨_, _, _, rfl, (HA.out.alloc _).alloc _, HFL, (hu.alloc _).alloc _, hq⟩, below2 w _ _⟩
  | false =>
    have HFL : Hid (decide (0 < l) = decide (-p < 0)) := by
      have h1 := hb.out
      simp at h1
      rw [Hid]
      exact decide_eq_decide.2 ⟨fun h => by have := fun e => (Nat.pos_iff_ne_zero.1 h) (hll.2.2 e); omega, fun h => Nat.pos_of_ne_zero fun e => by have := hll.2.1 e; omega⟩
    clear hll
    go_enter Tryz.func104, Tryz.ntmps104
    go_wp2
    exact bodyPost_ret (v := .agg #[.bool (decide (0 < l)), .slice ao l cap, .slice ao' l' cap']) (by simp [results, Tryz.results104, go_sem]) rfl ⟨_, rfl, ⟨_, _, _, rfl, (HA.out.alloc _).alloc _, HFL, (hu.alloc _).alloc _, hq⟩, below2 w _ _⟩

set_option maxHeartbeats 1000000 in
set_option maxRecDepth 100000 in
theorem sign_any (w : World) (x : Value) (p : Int) (q : Nat) (h : NumV w x p q) (K : Nat) (hp : p.natAbs < 10000 ^ K) :
    Calls Tryz.prog 115 #[x] w fun e w' => e = .returned (.int .i64 p.sign) ∧ Below w.heap.size w w' := by
  obtain ⟨b, ao, l, cap, ao', l', cap', rfl, hv, hb, hu, hq⟩ := h.parts
  have hll := nv_len hv hp
  have hbW : Below w.heap.size w (w.alloc (.cells #[.bool b, .slice ao l cap, .slice ao' l' cap'] 118)) := (Below.refl _ _).alloc (Nat.le_refl _) _
  cases b with
  | true =>
    have HS : Hid (p.sign = -1) := Int.sign_eq_neg_one_of_neg (by have := hb.out; simp at this; exact this)
    clear hll
    go_enter Tryz.func115, Tryz.ntmps115
    go_wp2
    go_ret
    exact ⟨ret_int HS.out.symm, hbW⟩
  | false =>
    have h1 := hb.out
    simp at h1
    by_cases hl : l = 0
    · have HS : Hid (p.sign = 0) := by rw [Hid, Int.sign_eq_zero_iff_zero]; have := hll.2.1 hl; omega
      subst hl
      clear hll h1
      go_enter Tryz.func115, Tryz.ntmps115
      go_wp2
      go_ret
      exact ⟨ret_int HS.out.symm, hbW⟩
    · have HS : Hid (p.sign = 1) := Int.sign_eq_one_of_pos (by have := fun e => hl (hll.2.2 e); omega)
      have hl0 : (0 : Int) < (l : Int) := by omega
      clear hll h1
      go_enter Tryz.func115, Tryz.ntmps115
      go_wp2
      go_ret
      exact ⟨ret_int HS.out.symm, hbW⟩

theorem nv_one {w : World} {ao : Option Addr} {l cap n : Nat} (h : NV w (.slice ao l cap) n) : (n = 1 → l = 1 ∧ ∃ g off, ao = some ⟨g, off, none⟩ ∧ w.cell? ⟨g, off, none⟩ = some (.int .i64 1)) ∧ (n ≠ 1 → l = 1 → ∃ g off z, ao = some ⟨g, off, none⟩ ∧ w.cell? ⟨g, off, none⟩ = some (.int .i64 z) ∧ z ≠ 1) := by
  obtain ⟨ds, hs, hd, ht, rfl⟩ := h
  obtain ⟨ao', cap', he, hc⟩ := hs.shape
  simp only [Value.slice.injEq] at he
  obtain ⟨rfl, rfl, rfl⟩ := he
  constructor
  · intro h1
    have e : ds = [1] := top_inj hd (dig_one (by omega)) ht (top_one (by omega)) (by rw [h1, val_one])
    subst e
    obtain ⟨g, off, rfl, hg, hrow⟩ := hs.row (by simp)
    exact ⟨rfl, g, off, rfl, by have := hrow 0 (by simp); simpa using this⟩
  · intro h1 hl
    obtain ⟨g, off, rfl, hg, hrow⟩ := hs.row (by intro e; rw [e] at hl; simp at hl)
    obtain ⟨c, rfl⟩ := List.length_eq_one_iff.1 hl
    rw [val_one] at h1
    exact ⟨g, off, c, rfl, by have := hrow 0 (by simp); simpa using this, by omega⟩

set_option maxHeartbeats 1000000 in
set_option maxRecDepth 100000 in
theorem whole_any (w : World) (x : Value) (p : Int) (q : Nat) (h : NumV w x p q) (K : Nat) (hq : q < 10000 ^ K) (hK : K ≤ 1000000000) :
    Calls Tryz.prog 190 #[x] w fun e w' => e = .returned (.bool (decide (q = 1))) ∧ Below w.heap.size w w' := by
  obtain ⟨b, ao, l, cap, ao', l', cap', rfl, hv, hb, hu, hq0⟩ := h.parts
  have hll := nv_len hu hq
  have hbW : Below w.heap.size w (w.alloc (.cells #[.bool b, .slice ao l cap, .slice ao' l' cap'] 118)) := (Below.refl _ _).alloc (Nat.le_refl _) _
  have h1 := nv_one (hu.alloc (.cells #[.bool b, .slice ao l cap, .slice ao' l' cap'] 118))
  by_cases hq1 : q = 1
  · have HD := hide (decide_eq_true hq1)
    obtain ⟨rfl, g, off, rfl, hc⟩ := h1.1 hq1
    clear h1 hll
    go_enter Tryz.func190, Tryz.ntmps190
    go_wp2
    go_ret
    exact ⟨ret_bool HD.out.symm, hbW⟩
  · have HD := hide (decide_eq_false hq1)
    by_cases hl : l' = 1
    · obtain ⟨g, off, z, rfl, hc, hz⟩ := h1.2 hq1 hl
      subst hl
      clear h1 hll
      go_enter Tryz.func190, Tryz.ntmps190
      go_wp2
      go_ret
      refine ⟨ret_bool ?_, hbW⟩
      rw [HD.out]
      first | rfl | simp [hz]
    · have hl2 : (l' : Int) ≠ 1 := by omega
      clear h1
      go_enter Tryz.func190, Tryz.ntmps190
      go_wp2
      go_ret
      exact ⟨ret_bool HD.out.symm, hbW⟩
end Go.Proofs.YtnhfdcfnojnofaaGreatDoor.T

/-
  What the keeper's leaves do: pick, num, over.
-/
namespace Go.Proofs.YtnhfdcfnojnofaaGreatDoor
open Go.RowKit

/-- What pick answers. -/
def pickZ (c n : Int) : Int := (if c < 0 then -(c + 1) else c) % n

/-- A fraction's text, not in lowest terms. -/
def overText (a b : Int) : List UInt8 := Lib.itoa a ++ ([47] ++ Lib.itoa b)

end Go.Proofs.YtnhfdcfnojnofaaGreatDoor

/-
  Numbers written are read as themselves: facts of texts.
-/
namespace Go.Proofs.YtnhfdcfnojnofaaGreatDoor
open Go.RowKit

theorem dig_toNat {k : Nat} (h : k < 10) : (UInt8.ofNat (48 + k)).toNat = 48 + k := by
  rw [UInt8.toNat_ofNat']; omega

theorem allDig_append (a b : List UInt8) : allDig (a ++ b) = (allDig a && allDig b) := by simp [allDig]

theorem index_at (a b : List UInt8) (h : ∀ c ∈ a, c ≠ 47) : Lib.index (a ++ 47 :: b) [47] = a.length := by
  induction a with
  | nil => simp [Lib.index]
  | cons c a ih =>
    have ih := ih (fun d hd => h d (List.mem_cons_of_mem _ hd))
    have hc := h c List.mem_cons_self
    simp only [List.cons_append, Lib.index, ih]
    have hp : ([47] : List UInt8).isPrefixOf (c :: (a ++ 47 :: b)) = false := by
      simp [List.isPrefixOf, Ne.symm hc]
    rw [hp]
    have hn : ((a.length : Int) == -1) = false := by
      rw [beq_eq_false_iff_ne]; omega
    rw [hn]; simp

theorem cut_at (a b : List UInt8) (h : ∀ c ∈ a, c ≠ 47) : Lib.cut (a ++ 47 :: b) [47] = (a, b, true) := by
  unfold Lib.cut
  rw [index_at a b h, if_pos (by omega)]
  simp

theorem itoa_nat (b : Nat) : Lib.itoa (b : Int) = Lib.decDigits b := by
  rw [Lib.itoa, if_neg (by omega)]; simp

end Go.Proofs.YtnhfdcfnojnofaaGreatDoor

/-
  Plain numbers to the base 2^32: the division of school by guessed digits; no program here.
-/
namespace Go.Proofs.YtnhfdcfnojnofaaGreatDoor

/-- What a list of digits is behind a window of it has been written anew. -/
def splice (L W : List Nat) (j : Nat) : List Nat := L.take j ++ (W ++ L.drop (j + W.length))

end Go.Proofs.YtnhfdcfnojnofaaGreatDoor

/-
  What guessDigit of package natural does.
-/
namespace Go.Proofs.YtnhfdcfnojnofaaGreatDoor
open Go.RowKit

/-- A digit that is not too small, whatever is not above the first guess and not above each that the three highest digits fell. -/
def Least (high lead U3 V2 g : Nat) : Prop := ∀ Q, Q ≤ high / lead → (∀ k, U3 < k * V2 → Q < k) → Q < 4294967296 → Q ≤ g

end Go.Proofs.YtnhfdcfnojnofaaGreatDoor

/-
  What longDivide of package natural does.
-/
namespace Go.Proofs.YtnhfdcfnojnofaaGreatDoor
open Go.RowKit

theorem Row.keep {w w' : World} {b o off n : Nat} {ds : List Nat} (h : Row w b o ds) (hu : Upd b off n w w') (hd : o + ds.length ≤ off ∨ off + n ≤ o) : Row w' b o ds :=
  fun i hi => (hu.cell (o + i) (by omega)).trans (h i hi)

theorem Row.splice {w w' : World} {b off j : Nat} {L W : List Nat} (h : Row w b off L) (hu : Upd b (off + j) W.length w w') (hW : Row w' b (off + j) W) (hj : j + W.length ≤ L.length) : Row w' b off (splice L W j) := by
  have h1 : Row w' b off (L.take j) := (h.take j).keep hu (Or.inl (by simp; omega))
  have hl : (L.take j).length = j := by simp; omega
  refine h1.append ?_
  rw [hl]
  refine hW.append ?_
  have h2 := (h.drop (j + W.length)).keep hu (Or.inr (by omega))
  rw [show off + j + W.length = off + (j + W.length) by omega]
  exact h2

/-- What may have changed: two blocks' cells. -/
structure Two (b c : Nat) (w w' : World) : Prop where
  os : w'.os = w.os
  tape : w'.tape = w.tape
  output : w'.output = w.output
  size : w'.heap.size = w.heap.size
  block : ∀ k, k ≠ b → k ≠ c → w'.heap[k]? = w.heap[k]?
  frozen : ∀ k j, w'.frozen? ⟨k, j, none⟩ = w.frozen? ⟨k, j, none⟩

theorem Two.refl (b c : Nat) (w : World) : Two b c w w := ⟨rfl, rfl, rfl, rfl, fun _ _ _ => rfl, fun _ _ => rfl⟩
theorem Two.trans {b c : Nat} {u v w : World} (h : Two b c u v) (k : Two b c v w) : Two b c u w :=
  ⟨k.os.trans h.os, k.tape.trans h.tape, k.output.trans h.output, k.size.trans h.size, fun i h1 h2 => (k.block i h1 h2).trans (h.block i h1 h2), fun i j => (k.frozen i j).trans (h.frozen i j)⟩
theorem Two.below {b c B : Nat} {w w' : World} (h : Two b c w w') (hb : B ≤ b) (hc : B ≤ c) : Below B w w' := ⟨h.os, h.tape, h.output, Nat.le_of_eq h.size.symm, fun k hk => h.block k (by omega) (by omega)⟩

end Go.Proofs.YtnhfdcfnojnofaaGreatDoor

/-
  Numbers read: a text without a stroke; what is written is read as itself.
-/
namespace Go.Proofs.YtnhfdcfnojnofaaGreatDoor
open Go.RowKit

theorem index_none (a : List UInt8) (h : ∀ c ∈ a, c ≠ 47) : Lib.index a [47] = -1 := by
  induction a with
  | nil => simp [Lib.index]
  | cons c a ih =>
    have ih := ih (fun d hd => h d (List.mem_cons_of_mem _ hd))
    have hc := h c List.mem_cons_self
    simp only [Lib.index, ih]
    have hp : ([47] : List UInt8).isPrefixOf (c :: a) = false := by
      simp [List.isPrefixOf, Ne.symm hc]
    rw [hp]
    simp

theorem cut_none (a : List UInt8) (h : ∀ c ∈ a, c ≠ 47) : Lib.cut a [47] = (a, [], false) := by
  unfold Lib.cut
  rw [index_none a h, if_neg (by omega)]

end Go.Proofs.YtnhfdcfnojnofaaGreatDoor

/-
  What the keeper's lowest does.
-/
namespace Go.Proofs.YtnhfdcfnojnofaaGreatDoor
open Go.RowKit

/-- A fraction as it is written: in lowest terms. -/
def lowText (a : Int) (b : Nat) : List UInt8 :=
  if b / Nat.gcd a.natAbs b = 1 then Lib.itoa (a / (Nat.gcd a.natAbs b : Int)) else overText (a / (Nat.gcd a.natAbs b : Int)) (b / Nat.gcd a.natAbs b : Nat)

end Go.Proofs.YtnhfdcfnojnofaaGreatDoor

/-
  What the keeper's calc does with whole numbers' texts.
-/
namespace Go.Proofs.YtnhfdcfnojnofaaGreatDoor
open Go.RowKit

/-- What the keeper makes of raw bytes: a digit of each; a 7 ahead of none, or of a nought. -/
def digT (l : List UInt8) : List UInt8 := if l = [] ∨ l.head? = some 48 then 55 :: l else l

/-- The text of a whole number. -/
def wT (z : Int) : ByteArray := ⟨(Lib.itoa z).toArray⟩

/-- The keeper's calc answers so. -/
def KC (op : Int) (s t r : ByteArray) : Prop := ∀ W, Gl W → Calls Tryz.prog 22 #[.int .i64 op, .string s, .string t] W fun e w' => e = .returned (.string r) ∧ Below W.heap.size W w'

end Go.Proofs.YtnhfdcfnojnofaaGreatDoor
