/-
  Part 12 of the texts ahead of Cal1: Tr5, Tr6, Tr7, Tr12, Txt11.
-/
import Derived.Test.YtnhfdcfnojnofaaGreatDoorCal1Z11
import Derived.Test.YtnhfdcfnojnofaaGreatDoorCal1Z4
import Derived.Test.YtnhfdcfnojnofaaGreatDoorCal1Z10
import Derived.Deep.DeepCutAuto
import Derived.Test.YtnhfdcfnojnofaaGreatDoorCal1Z9
import Derived.Lib.IndexLaws
set_option linter.unusedSimpArgs false
set_option linter.unusedVariables false
/-
  What the document's own divided does (package planesref).
-/
namespace Go.Proofs.YtnhfdcfnojnofaaGreatDoor.T
open Go.RowKit

theorem toDrewN {B : Nat} {a w : World} (h : Below B a w) (q : Nat) : Below B a (w.drewN q) := ⟨h.os, h.tape, h.output, h.size, h.block⟩

theorem cmpI_le {a b : Nat} : cmpI a b ≤ 0 ↔ a ≤ b := by
  unfold cmpI
  split
  · omega
  · split <;> omega

theorem div_round {x D n Q r R lo : Nat} (h : D = n * Q + r) (hR : R = x + 10000 * r) (hlo : n * lo ≤ R) : x + 10000 * D = n * (lo + 10000 * Q) + (R - n * lo) := by
  have h1 : n * (lo + 10000 * Q) = n * lo + 10000 * (n * Q) := by rw [Nat.mul_add, Nat.mul_left_comm]
  rw [h1]
  omega

theorem rest_bd {x n r : Nat} (hx : x < 10000) (hr : r < n) : x + 10000 * r < n * 10000 := by omega

theorem nv_places {w : World} {v : Value} {ds : List Nat} (h : Sl w v ds) (hd : Dig ds) (ht : Top ds) : NV w v (val ds) := ⟨ds, h, hd, ht, rfl⟩

theorem dig_cons {x : Nat} {ds : List Nat} (hx : x < 10000) (h : Dig ds) : Dig (x :: ds) := fun d hm => by
  rcases List.mem_cons.1 hm with rfl | h'
  · exact hx
  · exact h d h'

theorem mid_bd {lo hi : Nat} (h : lo < hi) : lo < (lo + hi + 1) / 2 ∧ (lo + hi + 1) / 2 ≤ hi := by omega

set_option maxHeartbeats 8000000 in
set_option maxRecDepth 100000 in
theorem divided_any (w : World) (u v : Value) (m n K : Nat) (hu : NV w u m) (hv : NV w v n) (hm : m < 10000 ^ K) (hn : n < 10000 ^ K) (hn0 : n ≠ 0) (hK : K ≤ 100000000) :
    Calls Tryz.prog 188 #[u, v] w fun e w' => ∃ x y, e = .returned (.tuple #[x, y]) ∧ NV w' x (m / n) ∧ NV w' y (m % n) ∧ Below w.heap.size w w' := by
  obtain ⟨i0, hi, hz0, hz1, hz2⟩ := info_parts Tryz.infoInt
  obtain ⟨ds, hs, hd, ht, hmv⟩ := hu
  have hl := top_len ht (by rw [hmv]; exact hm)
  obtain ⟨ao, cap, rfl, hc⟩ := hs.shape
  have HMV := hide hmv
  have HN := hide hn
  have HN0 := hide hn0
  clear hm hn ht hmv hn0
  go_enter Tryz.func188, Tryz.ntmps188
  go_wp2
  go_loopw [6, 7, 8] (fun qv rv iv wr => ∃ (k r : Nat) (qs : List Nat), k ≤ ds.length ∧ iv = .int .i64 ((k : Int) - 1) ∧ NV wr rv r ∧ Hid (r < n) ∧ Sl wr qv qs ∧ Dig qs ∧ qs.length + k = ds.length ∧ Hid (val (ds.drop k) = n * val qs + r) ∧ Below w.heap.size w wr) (fun _ _ iv _ => (intOf iv + 1).toNat)
  case atStart => exact ⟨ds.length, 0, [], Nat.le_refl _, rfl, NV.zero _, by rw [Hid]; exact Nat.pos_of_ne_zero HN0.out, sl_empty _, fun d hd => by simp at hd, by simp, by rw [Hid, List.drop_of_length_le (Nat.le_refl _)]; simp [val], Below.refl _ _⟩
  case round =>
    obtain ⟨k, r, qs, hk, rfl, hr, hrn, hqs, hqd, hql, hdv, hbel⟩ := hrel
    obtain ⟨ap, kp, rfl, hqk⟩ := hqs.shape
    cases k with
    | zero =>
      have hdm : m / n = val qs ∧ m % n = r := by
        have h1 := hdv.out
        rw [List.drop_zero, HMV.out] at h1
        refine ⟨?_, ?_⟩
        · rw [h1, Nat.mul_add_div (Nat.pos_of_ne_zero HN0.out), Nat.div_eq_of_lt hrn.out, Nat.add_zero]
        · rw [h1, Nat.mul_add_mod, Nat.mod_eq_of_lt hrn.out]
      have HD := hide hdm
      obtain ⟨rs, hrs, hrd, hrt, hrv⟩ := hr
      obtain ⟨ap2, kp2, rfl, hrk⟩ := hrs.shape
      have HRV := hide hrv
      clear hdm hrv
      go_wp2_with fail
      refine (trim_any _ _ qs hqs (by omega)).mono ?_
      rintro e w3 ⟨⟨x, rfl, hx⟩, rfl⟩
      go_wp2
      go_ret2
      refine ⟨x, _, rfl, nv_trim hx hqd (by rw [HD.out.1]), ⟨rs, hrs, hrd, hrt, ?_⟩, hbel⟩
      rw [HRV.out, HD.out.2]
    | succ k =>
      obtain ⟨b, off, rfl, hb, hrow⟩ := hs.row (by intro e; simp [e] at hk)
      have hck := (hbel.cell (p := ⟨b, off + k, none⟩) hb).trans (hrow k (by omega))
      have hdk := hd.get k
      have HDR := hide (val_drop ds k (by omega))
      generalize ds.getD k 0 = x at *
      obtain ⟨rs, hrs, hrd, hrt, hrv⟩ := hr
      obtain ⟨ap2, kp2, rfl, hrk⟩ := hrs.shape
      have HRV := hide hrv
      have hrl := top_len hrt (k := K) (by rw [hrv]; exact Nat.lt_trans hrn.out HN.out)
      clear hrv
      go_wp2_with (at_builtin; refine wpList_append_own _ rfl _ _ 35 rfl wr.heap.size 3 i0 (.int .i64 0) 1 8 Tryz.underlying35 hi hz0 hz1 hz2 rfl (by decide) (.slice none 0 0) 0 [] rfl (World.ownsRow_nil _ _ _ _) ⟨wr.heap.size, 0, none⟩ 1 1 [.int .i64 (x : Int)] rfl rfl (cell_one_new _ _ _) ?c2 (by unfold maxLen; omega) (by omega) (by simp) ?_)
      case c2 => first | rfl | (intro u hu; simp at hu; subst hu; rfl)
      intro v3 w3 hown3 hgrow hnn
      obtain ⟨g3, cap3, hvv, _⟩ := owns_parts (ds := [x]) hown3 hnn
      subst hvv
      have hb3 : Below wr.heap.size wr w3 := ((Below.refl _ _).alloc (Nat.le_refl _) _).grown hgrow (by simp) (fun k h => by simp [Value.ownBlock] at h)
      have hrs3 := hrs.below hb3
      clear hgrow hnn
      go_wp2_with (at_builtin; refine append_sl rfl _ _ rfl wr.heap.size hb3.size (some ⟨g3, 0, none⟩) cap3 [x] rfl hown3 _ rs rfl hrs3 (by simp; omega) ?_)
      intro ap' kp' w4 hown4 hbb
      have hb4 := hbb wr.heap.size wr hb3 (Nat.le_refl _)
      have hsl4 : Sl w4 (.slice ap' (rs.length + 1) kp') (x :: rs) := sl_of_owns (os := x :: rs) hown4
      clear hbb hown4 hown3 hb3 hrs3
      go_wp2_with fail
      refine (trim_any _ _ (x :: rs) hsl4 (by simp; omega)).mono ?_
      rintro e w5 ⟨⟨rv, rfl, hrv5⟩, rfl⟩
      obtain ⟨R, hR⟩ : ∃ R, R = x + 10000 * r := ⟨_, rfl⟩
      have hRv : NV w5 rv R := nv_trim hrv5 (dig_cons hdk hrd) (by rw [hR, ← HRV.out]; rfl)
      have hRb : R < n * 10000 := by rw [hR]; exact rest_bd hdk hrn.out
      have hRK : R < 10000 ^ (K + 1) := by
        rw [Nat.pow_succ]
        exact Nat.lt_of_lt_of_le hRb (Nat.mul_le_mul_right _ (Nat.le_of_lt HN.out))
      have HR := hide hR
      have HRB := hide hRb
      have HRK := hide hRK
      have hqs5 := hqs.below hb4
      have hbel5 := hbel.trans (hb4.mono hbel.size)
      have hv5 := hv.below hbel5
      clear hR hRb hRK hrv5 hsl4 hb4 hck hqs hrs hrk
      go_wp2_with fail
      go_loopw [10, 11] (fun lv hv wq => ∃ (lo hh : Nat), lo ≤ hh ∧ hh ≤ 9999 ∧ lv = .int .i64 (lo : Nat) ∧ hv = .int .i64 (hh : Nat) ∧ Hid (n * lo ≤ R) ∧ Hid (R < n * (hh + 1)) ∧ Below w5.heap.size w5 wq) (fun lv hv _ => (intOf hv - intOf lv).toNat)
      case atStart => exact ⟨0, 9999, by omega, by omega, rfl, rfl, by simp [Hid], HRB, Below.refl _ _⟩
      case round =>
        obtain ⟨lo, hh, hlh, hh9, rfl, rfl, hlo, hhi, hbq⟩ := hrel
        by_cases hlt : lo < hh
        · have hmb := mid_bd hlt
          obtain ⟨md, hmd⟩ : ∃ md, md = (lo + hh + 1) / 2 := ⟨_, rfl⟩
          rw [← hmd] at hmb
          have hmi : ((lo : Int) + (hh : Int) + 1) / 2 = (md : Int) := by rw [hmd]; omega
          have hlti : (lo : Int) < (hh : Int) := by omega
          have HMD := hide hmd
          clear hmd
          have hvq := hv5.below hbq
          have hRq := hRv.below hbq
          go_wp2_with fail
          refine (times_any _ _ n md K hvq (by omega) HN.out (by omega)).mono ?_
          rintro e w6 ⟨xv, rfl, hxv, hb6⟩
          have hR6 := hRq.below hb6
          have hbq6 := hbq.trans (hb6.mono hbq.size)
          have hnm : n * md < 10000 ^ (K + 1) := by
            rw [Nat.pow_succ]
            exact Nat.mul_lt_mul'' HN.out (by omega)
          clear hb6 hRq hvq
          go_wp2_with fail
          refine (compare_any _ _ _ (n * md) R (K + 1) hxv hR6 hnm HRK.out (by omega)).mono ?_
          rintro e w7 ⟨rfl, q7, rfl⟩
          have hbq7 := toDrewN hbq6 q7
          clear hnm hbq6 hxv hR6 hbq
          by_cases hle : n * md ≤ R
          · have hz := cmpI_le.2 hle
            have HLE := hide hle
            generalize cmpI (n * md) R = z at *
            clear hle
            go_wp2
            go_roundw
            case rel => exact ⟨md, hh, by omega, hh9, by go_num, rfl, HLE, hhi, hbq7⟩
            case measure => simp [intOf]; omega
          · have hz : 0 < cmpI (n * md) R := by
              rcases Int.lt_or_le 0 (cmpI (n * md) R) with h | h
              · exact h
              · exact absurd (cmpI_le.1 h) hle
            have HLE := hide hle
            generalize cmpI (n * md) R = z at *
            clear hle
            go_wp2
            go_roundw
            case rel => exact ⟨lo, md - 1, by omega, by omega, rfl, by go_num, hlo, by rw [Hid, show md - 1 + 1 = md by omega]; have := HLE.out; omega, hbq7⟩
            case measure => simp [intOf]; omega
        · obtain rfl : lo = hh := by omega
          have hvq := hv5.below hbq
          have hRq := hRv.below hbq
          clear hRv hv5
          go_wp2_with fail
          refine (times_any _ _ n lo K hvq (by omega) HN.out (by omega)).mono ?_
          rintro e w6 ⟨xv, rfl, hxv, hb6⟩
          have hR6 := hRq.below hb6
          have hbq6 := hbq.trans (hb6.mono hbq.size)
          clear hb6 hRq hvq hbq
          go_wp2_with fail
          refine (less_any _ _ _ R (n * lo) (K + 1) hR6 hxv HRK.out hlo.out (by omega)).mono ?_
          rintro e w7 ⟨nv, rfl, hnv, hb7⟩
          have hbq7 := hbq6.trans (hb7.mono hbq6.size)
          have hq7 := hqs5.below hbq7
          have hbel7 := hbel5.trans (hbq7.mono hbel5.size)
          clear hb7 hbq6 hR6 hxv hqs5 hbq7 hbel5
          go_wp2_with (at_builtin; refine wpList_append_own _ rfl _ _ 35 rfl w7.heap.size 3 i0 (.int .i64 0) 1 8 Tryz.underlying35 hi hz0 hz1 hz2 rfl (by decide) (.slice none 0 0) 0 [] rfl (World.ownsRow_nil _ _ _ _) ⟨w7.heap.size, 0, none⟩ 1 1 [.int .i64 (lo : Int)] rfl rfl (cell_one_new _ _ _) ?c2 (by unfold maxLen; omega) (by omega) (by simp) ?_)
          case c2 => first | rfl | (intro u hu; simp at hu; subst hu; rfl)
          intro v8 w8 hown8 hgrow hnn
          obtain ⟨g8, cap8, hvv, _⟩ := owns_parts (ds := [lo]) hown8 hnn
          subst hvv
          have hb8 : Below w7.heap.size w7 w8 := ((Below.refl _ _).alloc (Nat.le_refl _) _).grown hgrow (by simp) (fun k h => by simp [Value.ownBlock] at h)
          have hq8 := hq7.below hb8
          clear hgrow hnn hq7
          go_wp2_with (at_builtin; refine append_sl rfl _ _ rfl w7.heap.size hb8.size (some ⟨g8, 0, none⟩) cap8 [lo] rfl hown8 _ qs rfl hq8 (by simp; omega) ?_)
          intro ap9 kp9 w9 hown9 hbb
          have hb9 := hbb w7.heap.size w7 hb8 (Nat.le_refl _)
          have hsl9 : Sl w9 (.slice ap9 (qs.length + 1) kp9) (lo :: qs) := sl_of_owns (os := lo :: qs) hown9
          have hn9 := hnv.below hb9
          have hbel9 := hbel7.trans (hb9.mono hbel7.size)
          have HNR : Hid (R - n * lo < n) := by
            have h1 := hhi.out
            have h2 := hlo.out
            rw [Nat.mul_add, Nat.mul_one] at h1
            rw [Hid]
            omega
          have HDV : Hid (val (ds.drop k) = n * val (lo :: qs) + (R - n * lo)) := by
            rw [Hid, HDR.out]
            exact div_round hdv.out HR.out hlo.out
          clear hbb hown9 hown8 hb8 hq8 hnv hb9 hbel7 hlo hhi
          go_wp2
          go_roundw
          case rel => exact ⟨k, R - n * lo, lo :: qs, by omega, by go_num, hn9, HNR, hsl9, dig_cons (by omega) hqd, by simp; omega, HDV, hbel9⟩
          case measure => simp [intOf]
end Go.Proofs.YtnhfdcfnojnofaaGreatDoor.T

/-
  What the document's own lowest, Of, Turned, Sign, Whole do (package planesref).
-/
namespace Go.Proofs.YtnhfdcfnojnofaaGreatDoor.T
open Go.RowKit

theorem NV.setCell {w : World} {v : Value} {n : Nat} (h : NV w v n) {a : Addr} {y : Value} (hy : w.cell? a = some y) (hn : ∀ k, y ≠ .int .i64 k) (x : Value) : NV (w.setCell a x) v n := by
  obtain ⟨ds, hs, h2⟩ := h
  refine ⟨ds, ?_, h2⟩
  rcases hs with hs | ⟨b, off, cap, hv, hc, hb, hrow, hkd⟩
  · exact Or.inl hs
  · refine Or.inr ⟨b, off, cap, hv, hc, by simpa using hb, fun i hi => ?_, hkd.setCell _ _⟩
    rw [World.cell?_setCell_other _ _ _ _ (by
      intro he
      have := hrow i hi
      rw [← he, hy, Option.some.injEq] at this
      exact hn _ this)]
    exact hrow i hi

theorem NV.slice {w : World} {v : Value} {n : Nat} (h : NV w v n) : ∃ ao l cap, v = .slice ao l cap := by
  obtain ⟨ds, hs, _⟩ := h
  obtain ⟨ao, cap, rfl, _⟩ := hs.shape
  exact ⟨_, _, _, rfl⟩

/-- A struct value that stands for the number p / q. -/
def NumV (w : World) (x : Value) (p : Int) (q : Nat) : Prop :=
  ∃ b v u, x = .agg #[.bool b, v, u] ∧ NV w v p.natAbs ∧ Hid (b = decide (p < 0)) ∧ NV w u q ∧ 0 < q

theorem NumV.below {w w' : World} {x : Value} {p : Int} {q : Nat} (h : NumV w x p q) (hb : Below w.heap.size w w') : NumV w' x p q := by
  obtain ⟨b, v, u, h1, h2, h3, h4, h5⟩ := h
  exact ⟨b, v, u, h1, h2.below hb, h3, h4.below hb, h5⟩
theorem NumV.alloc {w : World} {x : Value} {p : Int} {q : Nat} (h : NumV w x p q) (o : Obj) : NumV (w.alloc o) x p q := h.below ((Below.refl _ _).alloc (Nat.le_refl _) o)
theorem NumV.drewN {w : World} {x : Value} {p : Int} {q : Nat} (h : NumV w x p q) (k : Nat) : NumV (w.drewN k) x p q := h
theorem NumV.drew {w : World} {x : Value} {p : Int} {q : Nat} (h : NumV w x p q) : NumV w.drew x p q := h

theorem NumV.parts {w : World} {x : Value} {p : Int} {q : Nat} (h : NumV w x p q) : ∃ b ao l cap ao' l' cap', x = .agg #[.bool b, .slice ao l cap, .slice ao' l' cap'] ∧ NV w (.slice ao l cap) p.natAbs ∧ Hid (b = decide (p < 0)) ∧ NV w (.slice ao' l' cap') q ∧ 0 < q := by
  obtain ⟨b, v, u, h1, h2, h3, h4, h5⟩ := h
  obtain ⟨ao, l, cap, rfl⟩ := h2.slice
  obtain ⟨ao', l', cap', rfl⟩ := h4.slice
  exact ⟨b, ao, l, cap, ao', l', cap', h1, h2, h3, h4, h5⟩

/-- A number laid into a box of its own and read from there. -/
theorem numV_boxed {w : World} {g : Nat} {b0 b : Bool} {a0 a1 : Option Addr} {l0 c0 l1 c1 : Nat} {v u : Value} {p : Int} {q : Nat} (hv : NV w v p.natAbs) (hb : Hid (b = decide (p < 0))) (hu : NV w u q) (hq : 0 < q)
    (h0 : w.cell? ⟨g, 0, none⟩ = some (.bool b0)) (h1 : w.cell? ⟨g, 1, none⟩ = some (.slice a0 l0 c0)) (h2 : w.cell? ⟨g, 2, none⟩ = some (.slice a1 l1 c1)) :
    NumV (((w.setCell ⟨g, 0, none⟩ (.bool b)).setCell ⟨g, 1, none⟩ v).setCell ⟨g, 2, none⟩ u) (.agg #[.bool b, v, u]) p q := by
  have e1 : (w.setCell ⟨g, 0, none⟩ (.bool b)).cell? ⟨g, 1, none⟩ = some (.slice a0 l0 c0) := by rw [World.cell?_setCell_other _ _ _ _ (by simp)]; exact h1
  have e2 : ((w.setCell ⟨g, 0, none⟩ (.bool b)).setCell ⟨g, 1, none⟩ v).cell? ⟨g, 2, none⟩ = some (.slice a1 l1 c1) := by
    rw [World.cell?_setCell_other _ _ _ _ (by simp), World.cell?_setCell_other _ _ _ _ (by simp)]; exact h2
  exact ⟨b, v, u, rfl, ((hv.setCell h0 (by simp) _).setCell e1 (by simp) _).setCell e2 (by simp) _, hb, ((hu.setCell h0 (by simp) _).setCell e1 (by simp) _).setCell e2 (by simp) _, hq⟩

theorem nv_len {w : World} {ao : Option Addr} {l cap n K : Nat} (h : NV w (.slice ao l cap) n) (hn : n < 10000 ^ K) : l ≤ K ∧ (l = 0 ↔ n = 0) := by
  obtain ⟨ds, hs, hd, ht, rfl⟩ := h
  obtain ⟨ao', cap', he, hc⟩ := hs.shape
  simp only [Value.slice.injEq] at he
  obtain ⟨_, rfl, _⟩ := he
  refine ⟨top_len ht hn, ?_⟩
  rw [List.length_eq_zero_iff]
  exact (top_zero ht).symm

theorem gcd_step (a b : Nat) : Nat.gcd b (a % b) = Nat.gcd a b := by rw [Nat.gcd_comm b, ← Nat.gcd_rec, Nat.gcd_comm]

theorem sg_div (neg : Bool) (n g : Nat) (h : g ∣ n) : sg neg n / (g : Int) = sg neg (n / g) := by
  cases neg
  · simp [sg]
  · simp only [sg, if_true]
    rw [Int.neg_ediv_of_dvd (Int.ofNat_dvd.2 h)]
    rfl

theorem sg_flag (neg : Bool) (n : Nat) : decide (sg neg n < 0) = (neg && decide (n ≠ 0)) := by
  have h : sg true n < 0 ↔ n ≠ 0 := by simp only [sg, if_true]; omega
  cases neg
  · simp [sg]
  · simp [h]

set_option maxHeartbeats 2000000 in
set_option maxRecDepth 100000 in
theorem lowest_any (w : World) (neg : Bool) (u v : Value) (m n K : Nat) (hu : NV w u m) (hv : NV w v n) (hm : m < 10000 ^ K) (hn : n < 10000 ^ K) (hn0 : n ≠ 0) (hK : K ≤ 100000000) :
    Calls Tryz.prog 183 #[.bool neg, u, v] w fun e w' => ∃ x, e = .returned x ∧ NumV w' x (sg neg m / (Nat.gcd m n : Int)) (n / Nat.gcd m n) ∧ Below w.heap.size w w' := by
  have hbox : Box3 (w.alloc (.cells #[.bool false, .slice none 0 0, .slice none 0 0] 118)) w.heap.size (.bool false) (.slice none 0 0) (.slice none 0 0) := Box3.new _ _ _ _ _
  have hbW : Below w.heap.size w (w.alloc (.cells #[.bool false, .slice none 0 0, .slice none 0 0] 118)) := (Below.refl _ _).alloc (Nat.le_refl _) _
  have HM := hide hm
  have HN := hide hn
  have HN0 := hide hn0
  obtain ⟨ao, l, cap, rfl⟩ := hu.slice
  obtain ⟨ao', l', cap', rfl⟩ := hv.slice
  clear hm hn hn0
  go_enter Tryz.func183, Tryz.ntmps183
  go_wp2
  generalize hwA : w.alloc (.cells #[.bool false, .slice none 0 0, .slice none 0 0] 118) = wA at *
  go_loopg [7, 8] n (fun b av bv wr => ∃ (a : Nat) (bo : Option Addr) (bl bc : Nat) (co : Option Addr) (cl cc : Nat), av = .slice co cl cc ∧ bv = .slice bo bl bc ∧ NV wr (.slice co cl cc) a ∧ NV wr (.slice bo bl bc) b ∧ Hid (a < 10000 ^ K) ∧ Hid (b < 10000 ^ K) ∧ Hid (Nat.gcd a b = Nat.gcd m n) ∧ Below wA.heap.size wA wr)
  case atStart => exact ⟨m, _, _, _, _, _, _, rfl, rfl, hu.below hbW, hv.below hbW, HM, HN, rfl, Below.refl _ _⟩
  case round =>
    obtain ⟨a, bo, bl, bc, co, cl, cc, rfl, rfl, ha, hb, haK, hbK, hg, hbel⟩ := hrel
    have hbl := nv_len hb hbK.out
    by_cases hb0 : gk = 0
    · have hbl0 : bl = 0 := hbl.2.2 hb0
      subst hbl0
      have hag : a = Nat.gcd m n := by
        have := hg.out
        rw [hb0, Nat.gcd_zero_right] at this
        exact this
      have hgp : 0 < Nat.gcd m n := Nat.gcd_pos_of_pos_right _ (Nat.pos_of_ne_zero HN0.out)
      have HAG := hide hag
      have HGP := hide hgp
      have HSD := hide (sg_div neg m (Nat.gcd m n) (Nat.gcd_dvd_left _ _))
      have HND : Hid (0 < n / Nat.gcd m n) := Nat.div_pos (Nat.le_of_dvd (Nat.pos_of_ne_zero HN0.out) (Nat.gcd_dvd_right _ _)) hgp
      have hu1 := (hu.below hbW).below hbel
      have hv1 := (hv.below hbW).below hbel
      have hboxR := hbox.below hbel
      have hbelW := hbW.trans (hbel.mono hbW.size)
      clear hb0 hag hgp hbl hb hbK
      go_wp2_with fail
      refine (divided_any _ _ _ m a K hu1 ha HM.out haK.out (by rw [HAG.out]; exact Nat.pos_iff_ne_zero.1 HGP.out) hK).mono ?_
      rintro e w2 ⟨x2, y2, rfl, hx2, hy2, hb2⟩
      obtain ⟨o2, l2, c2, rfl⟩ := hx2.slice
      obtain ⟨p2, k2, d2, rfl⟩ := hy2.slice
      have ha2 := ha.below hb2
      have hv2 := hv1.below hb2
      have hbox2 := hboxR.below hb2
      have hbel2 := hbelW.trans (hb2.mono hbelW.size)
      clear hb2 hu1 hv1 hboxR hbelW hy2 ha
      go_wp2_with fail
      refine (divided_any _ _ _ n a K hv2 ha2 HN.out haK.out (by rw [HAG.out]; exact Nat.pos_iff_ne_zero.1 HGP.out) hK).mono ?_
      rintro e w3 ⟨x3, y3, rfl, hx3, hy3, hb3⟩
      obtain ⟨o3, l3, c3, rfl⟩ := hx3.slice
      obtain ⟨p3, k3, d3, rfl⟩ := hy3.slice
      have hx23 := hx2.below hb3
      have hbox3 := hbox2.below hb3
      have hbel3 := hbel2.trans (hb3.mono hbel2.size)
      obtain ⟨f0, f1, f2, f3, f4, f5, f6⟩ := hbox3
      have hll := nv_len hx23 (Nat.lt_of_le_of_lt (Nat.div_le_self m a) HM.out)
      rw [HAG.out] at hx3 hx23 hll
      clear hb3 hv2 ha2 hbox2 hbel2 hy3 hx2 haK
      have hflag := sg_flag neg (m / Nat.gcd m n)
      have HNV1 : Hid (NV w3 (.slice o2 l2 c2) (sg neg m / (Nat.gcd m n : Int)).natAbs) := by
        rw [Hid, HSD.out, sg_abs]
        exact hx23
      cases neg with
      | false =>
        have HFL : Hid (false = decide (sg false m / (Nat.gcd m n : Int) < 0)) := by rw [Hid, HSD.out, hflag]; rfl
        clear hflag HSD
        go_wp2
        exact bodyPost_ret (v := .agg #[.bool false, .slice o2 l2 c2, .slice o3 l3 c3]) (by simp [results, Tryz.results183, go_sem, f0, f1, f2]) rfl ⟨_, rfl, numV_boxed HNV1.out HFL hx3 HND.out f0 f1 f2,
          ((hbel3.setCell (by simp) _).setCell (by simp) _).setCell (by simp) _⟩
      | true =>
        have HFL : Hid (decide (0 < l2) = decide (sg true m / (Nat.gcd m n : Int) < 0)) := by
          rw [Hid, HSD.out, hflag, Bool.true_and]
          exact decide_eq_decide.2 ⟨fun h e => by have := hll.2.2 e; omega, fun h => Nat.pos_of_ne_zero fun e => h (hll.2.1 e)⟩
        clear hflag HSD hll
        go_wp2
        exact bodyPost_ret (v := .agg #[.bool (decide (0 < l2)), .slice o2 l2 c2, .slice o3 l3 c3]) (by simp [results, Tryz.results183, go_sem, f0, f1, f2]) rfl ⟨_, rfl, numV_boxed HNV1.out HFL hx3 HND.out f0 f1 f2,
          ((hbel3.setCell (by simp) _).setCell (by simp) _).setCell (by simp) _⟩
    · have hbp : (0 : Int) < (bl : Int) := by have := fun h => hb0 (hbl.2.1 h); omega
      have HG : Hid (Nat.gcd gk (a % gk) = Nat.gcd m n) := by rw [Hid, gcd_step]; exact hg.out
      have HK2 : Hid (a % gk < 10000 ^ K) := Nat.lt_of_le_of_lt (Nat.mod_le _ _) haK.out
      have HLT : Hid (a % gk < gk) := Nat.mod_lt _ (Nat.pos_of_ne_zero hb0)
      go_wp2_with fail
      refine (divided_any _ _ _ a gk K ha hb haK.out hbK.out hb0 hK).mono ?_
      rintro e w2 ⟨x2, y2, rfl, hx2, hy2, hb2⟩
      obtain ⟨o2, l2, c2, rfl⟩ := hx2.slice
      obtain ⟨p2, k2, d2, rfl⟩ := hy2.slice
      have hb' := hb.below hb2
      have hbel2 := hbel.trans (hb2.mono hbel.size)
      clear hb2 hb ha hbel hbl hb0 hg
      go_wp2
      go_roundg (a % gk)
      case measure => exact HLT.out
      case rel => exact ⟨gk, _, _, _, _, _, _, rfl, rfl, hb', hy2, hbK, HK2, HG, hbel2⟩
end Go.Proofs.YtnhfdcfnojnofaaGreatDoor.T

/-
  What the document's own Of, Turned, Sign, Whole do (package planesref).
-/
namespace Go.Proofs.YtnhfdcfnojnofaaGreatDoor.T
open Go.RowKit

theorem top_one {n : Nat} (h : n ≠ 0) : Top [n] := by
  intro k hk
  obtain rfl : k = 0 := by simpa using hk
  simpa using h

theorem dig_one {n : Nat} (h : n < 10000) : Dig [n] := fun d hd => by simp at hd; omega

theorem nv_new (w : World) (n : Nat) (h0 : n ≠ 0) (h : n < 10000) : NV (w.alloc (.cells #[.int .i64 (n : Int)] 3)) (.slice (some ⟨w.heap.size, 0, none⟩) 1 1) n := by
  refine ⟨[n], Or.inr ⟨w.heap.size, 0, 1, rfl, Nat.le_refl _, by simp, fun i hi => ?_, ⟨_, _, heap_alloc_new _ _⟩⟩, dig_one h, top_one h0, val_one n⟩
  obtain rfl : i = 0 := by simpa using hi
  simp

set_option maxHeartbeats 1000000 in
set_option maxRecDepth 100000 in
theorem turned_any (w : World) (x : Value) (p : Int) (q : Nat) (h : NumV w x p q) (K : Nat) (hp : p.natAbs < 10000 ^ K) :
    Calls Tryz.prog 104 #[x] w fun e w' => ∃ y, e = .returned y ∧ NumV w' y (-p) q ∧ Below w.heap.size w w' := by
  obtain ⟨b, ao, l, cap, ao', l', cap', rfl, hv, hb, hu, hq⟩ := h.parts
  have hll := nv_len hv hp
  have HA : Hid (NV w (.slice ao l cap) (-p).natAbs) := by rw [Hid, Int.natAbs_neg]; exact hv
  cases b with
  | true =>
    have HFL : Hid (false = decide (-p < 0)) := by
      have := hb.out
      simp at this
      rw [Hid]
      simp
      omega
    clear hll
    go_enter Tryz.func104, Tryz.ntmps104
    go_wp2
    exact bodyPost_ret (v := .agg #[.bool false, .slice ao l cap, .slice ao' l' cap']) (by simp [results, Tryz.results104, go_sem]) rfl ⟨_, rfl, ⟨_, _, _, rfl, (HA.out.alloc _).alloc _, HFL, (hu.alloc _).alloc _, hq⟩, below2 w _ _⟩
  | false =>
    have HFL : Hid (decide (0 < l) = decide (-p < 0)) := by
      have h1 := hb.out
      simp at h1
      rw [Hid]
      exact decide_eq_decide.2 ⟨fun h => by have := fun e => (Nat.pos_iff_ne_zero.1 h) (hll.2.2 e); omega, fun h => Nat.pos_of_ne_zero fun e => by have := hll.2.1 e; omega⟩
    clear hll
    go_enter Tryz.func104, Tryz.ntmps104
    go_wp2
    exact bodyPost_ret (v := .agg #[.bool (decide (0 < l)), .slice ao l cap, .slice ao' l' cap']) (by simp [results, Tryz.results104, go_sem]) rfl ⟨_, rfl, ⟨_, _, _, rfl, (HA.out.alloc _).alloc _, HFL, (hu.alloc _).alloc _, hq⟩, below2 w _ _⟩

set_option maxHeartbeats 1000000 in
set_option maxRecDepth 100000 in
theorem sign_any (w : World) (x : Value) (p : Int) (q : Nat) (h : NumV w x p q) (K : Nat) (hp : p.natAbs < 10000 ^ K) :
    Calls Tryz.prog 115 #[x] w fun e w' => e = .returned (.int .i64 p.sign) ∧ Below w.heap.size w w' := by
  obtain ⟨b, ao, l, cap, ao', l', cap', rfl, hv, hb, hu, hq⟩ := h.parts
  have hll := nv_len hv hp
  have hbW : Below w.heap.size w (w.alloc (.cells #[.bool b, .slice ao l cap, .slice ao' l' cap'] 118)) := (Below.refl _ _).alloc (Nat.le_refl _) _
  cases b with
  | true =>
    have HS : Hid (p.sign = -1) := Int.sign_eq_neg_one_of_neg (by have := hb.out; simp at this; exact this)
    clear hll
    go_enter Tryz.func115, Tryz.ntmps115
    go_wp2
    go_ret
    exact ⟨ret_int HS.out.symm, hbW⟩
  | false =>
    have h1 := hb.out
    simp at h1
    by_cases hl : l = 0
    · have HS : Hid (p.sign = 0) := by rw [Hid, Int.sign_eq_zero_iff_zero]; have := hll.2.1 hl; omega
      subst hl
      clear hll h1
      go_enter Tryz.func115, Tryz.ntmps115
      go_wp2
      go_ret
      exact ⟨ret_int HS.out.symm, hbW⟩
    · have HS : Hid (p.sign = 1) := Int.sign_eq_one_of_pos (by have := fun e => hl (hll.2.2 e); omega)
      have hl0 : (0 : Int) < (l : Int) := by omega
      clear hll h1
      go_enter Tryz.func115, Tryz.ntmps115
      go_wp2
      go_ret
      exact ⟨ret_int HS.out.symm, hbW⟩

theorem nv_one {w : World} {ao : Option Addr} {l cap n : Nat} (h : NV w (.slice ao l cap) n) : (n = 1 → l = 1 ∧ ∃ g off, ao = some ⟨g, off, none⟩ ∧ w.cell? ⟨g, off, none⟩ = some (.int .i64 1)) ∧ (n ≠ 1 → l = 1 → ∃ g off z, ao = some ⟨g, off, none⟩ ∧ w.cell? ⟨g, off, none⟩ = some (.int .i64 z) ∧ z ≠ 1) := by
  obtain ⟨ds, hs, hd, ht, rfl⟩ := h
  obtain ⟨ao', cap', he, hc⟩ := hs.shape
  simp only [Value.slice.injEq] at he
  obtain ⟨rfl, rfl, rfl⟩ := he
  constructor
  · intro h1
    have e : ds = [1] := top_inj hd (dig_one (by omega)) ht (top_one (by omega)) (by rw [h1, val_one])
    subst e
    obtain ⟨g, off, rfl, hg, hrow⟩ := hs.row (by simp)
    exact ⟨rfl, g, off, rfl, by have := hrow 0 (by simp); simpa using this⟩
  · intro h1 hl
    obtain ⟨g, off, rfl, hg, hrow⟩ := hs.row (by intro e; rw [e] at hl; simp at hl)
    obtain ⟨c, rfl⟩ := List.length_eq_one_iff.1 hl
    rw [val_one] at h1
    exact ⟨g, off, c, rfl, by have := hrow 0 (by simp); simpa using this, by omega⟩

set_option maxHeartbeats 1000000 in
set_option maxRecDepth 100000 in
theorem whole_any (w : World) (x : Value) (p : Int) (q : Nat) (h : NumV w x p q) (K : Nat) (hq : q < 10000 ^ K) (hK : K ≤ 1000000000) :
    Calls Tryz.prog 190 #[x] w fun e w' => e = .returned (.bool (decide (q = 1))) ∧ Below w.heap.size w w' := by
  obtain ⟨b, ao, l, cap, ao', l', cap', rfl, hv, hb, hu, hq0⟩ := h.parts
  have hll := nv_len hu hq
  have hbW : Below w.heap.size w (w.alloc (.cells #[.bool b, .slice ao l cap, .slice ao' l' cap'] 118)) := (Below.refl _ _).alloc (Nat.le_refl _) _
  have h1 := nv_one (hu.alloc (.cells #[.bool b, .slice ao l cap, .slice ao' l' cap'] 118))
  by_cases hq1 : q = 1
  · have HD := hide (decide_eq_true hq1)
    obtain ⟨rfl, g, off, rfl, hc⟩ := h1.1 hq1
    clear h1 hll
    go_enter Tryz.func190, Tryz.ntmps190
    go_wp2
    go_ret
    exact ⟨ret_bool HD.out.symm, hbW⟩
  · have HD := hide (decide_eq_false hq1)
    by_cases hl : l' = 1
    · obtain ⟨g, off, z, rfl, hc, hz⟩ := h1.2 hq1 hl
      subst hl
      clear h1 hll
      go_enter Tryz.func190, Tryz.ntmps190
      go_wp2
      go_ret
      refine ⟨ret_bool ?_, hbW⟩
      rw [HD.out]
      first | rfl | simp [hz]
    · have hl2 : (l' : Int) ≠ 1 := by omega
      clear h1
      go_enter Tryz.func190, Tryz.ntmps190
      go_wp2
      go_ret
      exact ⟨ret_bool HD.out.symm, hbW⟩
end Go.Proofs.YtnhfdcfnojnofaaGreatDoor.T

/-
  What the document's own decimals, Text do (package planesref).
-/
namespace Go.Proofs.YtnhfdcfnojnofaaGreatDoor.T
open Go.RowKit

theorem padL_len (k : Nat) : ∀ r, (padL k r).length = k := by
  induction k with
  | zero => intro r; rfl
  | succ k ih => intro r; rw [padL]; simp [ih]

theorem padL_head (k : Nat) : ∀ r, padL (k + 1) r = UInt8.ofNat (48 + (r / 10 ^ k) % 10) :: padL k r := by
  induction k with
  | zero => intro r; simp [padL]
  | succ k ih =>
    intro r
    rw [padL, ih (r / 10), padL, Nat.div_div_eq_div_mul, Nat.mul_comm 10, ← Nat.pow_succ]
    rfl

theorem dec_len_ge (k : Nat) : ∀ n, 10 ^ k ≤ n → k < (Lib.decDigits n).length := by
  induction k with
  | zero => intro n _; exact dec_pos n
  | succ k ih =>
    intro n hn
    have h10 : ¬ n < 10 := by
      have : 10 ^ 1 ≤ 10 ^ (k + 1) := Nat.pow_le_pow_right (by omega) (by omega)
      omega
    have h1 := ih (n / 10) (by rw [Nat.pow_succ] at hn; omega)
    rw [Lib.decDigits, dif_neg h10]
    simp
    omega

/-- Without noughts ahead the digits are the number's own. -/
theorem padL_dec {j N : Nat} (h0 : 0 < j) (hN : N < 10 ^ j) (h : j = 1 ∨ 10 ^ (j - 1) ≤ N) : padL j N = Lib.decDigits N := by
  rw [padL_eq j N h0 hN]
  have h1 := dec_len_le j N hN h0
  have h2 : j ≤ (Lib.decDigits N).length := by
    rcases h with rfl | h
    · exact dec_pos N
    · have := dec_len_ge (j - 1) N h; omega
  rw [show j - (Lib.decDigits N).length = 0 by omega]
  rfl

theorem top_digit {j N : Nat} (hN : N < 10 ^ (j + 1)) : (N / 10 ^ j) % 10 = N / 10 ^ j := by
  refine Nat.mod_eq_of_lt ?_
  rw [Nat.pow_succ] at hN
  exact (Nat.div_lt_iff_lt_mul (Nat.pow_pos (by omega))).2 (by rw [Nat.mul_comm]; exact hN)

theorem pow4 (i : Nat) : 10000 ^ i = 10 ^ (4 * i) := by rw [Nat.pow_mul]

theorem place_at {ds : List Nat} (hd : Dig ds) (i : Nat) (hi : i < ds.length) : val ds / 10 ^ (4 * i) % 10000 = ds.getD i 0 := by
  have h1 := val_take_drop ds i (by omega)
  have h2 := val_drop ds i hi
  have h3 := val_lt (hd.take i)
  have h4 := hd.get i
  rw [List.length_take, Nat.min_eq_left (by omega)] at h3
  rw [← pow4, h1, Nat.add_comm, Nat.mul_add_div (Nat.pow_pos (by omega)), Nat.div_eq_of_lt h3, Nat.add_zero, h2, Nat.add_mul_mod_self_left, Nat.mod_eq_of_lt h4]

/-- A digit of a place is the number's. -/
theorem digit_at {ds : List Nat} (hd : Dig ds) (i k : Nat) (hi : i < ds.length) (hk : k < 4) : ds.getD i 0 / 10 ^ k % 10 = val ds / 10 ^ (4 * i + k) % 10 := by
  rw [← place_at hd i hi, Nat.pow_add, ← Nat.div_div_eq_div_mul]
  generalize val ds / 10 ^ (4 * i) = M
  have : k = 0 ∨ k = 1 ∨ k = 2 ∨ k = 3 := by omega
  rcases this with rfl | rfl | rfl | rfl <;> simp <;> omega

theorem int_digit (n : Nat) (hn : n < 10000) : wrap64 (48 + Int.tmod (n : Int) 10) % 256 = ((UInt8.ofNat (48 + n % 10)).toNat : Int) := by
  have h : n % 10 < 10 := Nat.mod_lt _ (by omega)
  rw [UInt8.toNat_ofNat', Int.tmod_eq_emod_of_nonneg (by omega), Go.IntWalk.wrap64_in _ (by omega)]
  omega

theorem ba_of {s : ByteArray} {l : List UInt8} (h : s.data.toList = l) : s = ⟨l.toArray⟩ := by
  subst h
  rfl

theorem extract_tail {s : ByteArray} {c : UInt8} {l : List UInt8} {m : Nat} (h : s = ⟨(c :: l).toArray⟩) (hl : l.length = m) : s.extract 1 (m + 1) = ⟨l.toArray⟩ := by
  apply ba_of
  rw [Lib.extract_data, h]
  simp only [List.drop_succ_cons, List.drop_zero, Nat.add_sub_cancel]
  exact List.take_of_length_le (Nat.le_of_eq hl)

theorem first_of {s : ByteArray} {c : UInt8} {l : List UInt8} (h : s = ⟨(c :: l).toArray⟩) (h0 : 0 < s.size) : s[0] = c := by
  subst h; rfl

set_option maxHeartbeats 2000000 in
set_option maxRecDepth 100000 in
theorem decimals_any (w : World) (v : Value) (n K : Nat) (hv : NV w v n) (hn : n < 10000 ^ K) (hK : K ≤ 100000000) :
    Calls Tryz.prog 189 #[v] w fun e w' => e = .returned (.string ⟨(Lib.decDigits n).toArray⟩) ∧ Below w.heap.size w w' := by
  obtain ⟨ds, hs, hd, ht, hnv⟩ := hv
  have hl := top_len ht (by rw [hnv]; exact hn)
  obtain ⟨ao, cap, rfl, hc⟩ := hs.shape
  have HNV := hide hnv
  have HT := hide ht
  clear hn ht hnv
  go_enter Tryz.func189, Tryz.ntmps189
  go_wp2
  go_loopw [3, 4] (fun sv iv wr => ∃ (i : Nat) (sB : ByteArray), i ≤ ds.length ∧ sv = .string sB ∧ sB.size = 4 * i ∧ Hid (sB = ⟨(padL (4 * i) n).toArray⟩) ∧ iv = .int .i64 (i : Nat) ∧ Below w.heap.size w wr) (fun _ iv _ => ((ds.length : Int) - intOf iv).toNat)
  case atStart => exact ⟨0, ⟨#[]⟩, by omega, rfl, rfl, rfl, rfl, Below.refl _ _⟩
  case round =>
    obtain ⟨i, sB, hi, rfl, hsz, HB, rfl, hbel⟩ := hrel
    by_cases hk : i < ds.length
    · obtain ⟨b, off, rfl, hb, hrow⟩ := hs.row (by intro e; rw [e] at hk; simp at hk)
      have hck := (hbel.cell (p := ⟨b, off + i, none⟩) hb).trans (hrow i hk)
      have hdk := hd.get i
      have HDA : Hid (∀ k, k < 4 → ds.getD i 0 / 10 ^ k % 10 = n / 10 ^ (4 * i + k) % 10) := by
        intro k hk4
        have := digit_at hd i k hk hk4
        rw [HNV.out] at this
        exact this
      generalize ds.getD i 0 = d at *
      go_wp2_with fail
      go_loopw [3, 5, 6] (fun sv nv kv wq => ∃ (k : Nat) (sC : ByteArray), k ≤ 4 ∧ sv = .string sC ∧ sC.size = 4 * i + k ∧ Hid (sC = ⟨(padL (4 * i + k) n).toArray⟩) ∧ nv = .int .i64 ((d / 10 ^ k : Nat) : Int) ∧ kv = .int .i64 (k : Nat) ∧ Below w.heap.size w wq) (fun _ _ kv _ => (4 - intOf kv).toNat)
      case atStart => exact ⟨0, sB, by omega, rfl, hsz, HB, by simp, rfl, hbel⟩
      case round =>
        obtain ⟨k, sC, hk4, rfl, hszC, HC, rfl, rfl, hbq⟩ := hrel
        by_cases hkk : k < 4
        · have hx : d / 10 ^ k < 10000 := Nat.lt_of_le_of_lt (Nat.div_le_self _ _) hdk
          have HD1 : Hid (d / 10 ^ k / 10 = d / 10 ^ (k + 1)) := by rw [Hid, Nat.div_div_eq_div_mul, Nat.pow_succ]
          have HD2 := hide (HDA.out k hkk)
          have HST : Hid (ByteArray.mk [UInt8.ofNat (48 + d / 10 ^ k % 10)].toArray ++ sC = ⟨(padL (4 * i + (k + 1)) n).toArray⟩) := by
            rw [Hid, HC.out, ba_append, show 4 * i + (k + 1) = 4 * i + k + 1 by omega, padL_head, HD2.out]
            rfl
          generalize d / 10 ^ k = x at *
          obtain ⟨u, hu⟩ : ∃ u, UInt8.ofNat (48 + x % 10) = u := ⟨_, rfl⟩
          rw [hu] at HST
          have HU := hide hu
          clear hu
          have hback : (convert 78 9 (.slice (some ⟨wr.heap.size, 0, none⟩) 1 1)).run Tryz.prog (wr.alloc (.cells #[.int .u8 (u.toNat : Int)] 5)) = .ok (.string ⟨[u].toArray⟩) (wr.alloc (.cells #[.int .u8 (u.toNat : Int)] 5)) := run_convert_bytes_back (P := Tryz.prog) (wr.alloc (.cells #[.int .u8 (u.toNat : Int)] 5)) 78 9 5 ⟨wr.heap.size, 0, none⟩ 1 [u] Tryz.underlying78 Tryz.underlying5 Tryz.underlying9 (by
            intro j hj
            have : j = 0 := by simp at hj; omega
            subst this
            simp [Addr.add])
          have HBK := hide hback
          clear hback
          have HE8 : Hid (48 + (x : Int) % 10 = ((UInt8.ofNat (48 + x % 10)).toNat : Int)) := by
            rw [Hid, dig_toNat (Nat.mod_lt _ (by omega))]
            omega
          go_wp2
          rw [HE8.out, HU.out, HBK.out]
          simp only [Result.andThen]
          rw [Oper.upon_value]
          have hszu : (ByteArray.mk [u].toArray).size = 1 := rfl
          generalize ByteArray.mk [u].toArray = tB at *
          go_wp2
          go_roundw
          case rel => exact ⟨k + 1, _, by omega, rfl, by rw [ByteArray.size_append]; omega, HST, by rw [← HD1.out]; rfl, by go_num, hbq.alloc hbq.size _⟩
          case measure => simp [intOf]; omega
        · obtain rfl : k = 4 := by omega
          clear hkk
          go_wp2
          go_roundw
          case rel => exact ⟨i + 1, sC, by omega, rfl, by omega, HC, by go_num, hbq⟩
          case measure => simp [intOf]; omega
    · obtain rfl : i = ds.length := by omega
      have HN4 : Hid (n < 10 ^ (4 * ds.length)) := by rw [Hid, ← pow4, ← HNV.out]; exact val_lt hd
      clear hk hi
      go_wp2_with fail
      go_loopw [3] (fun sv wq => ∃ (j : Nat) (sC : ByteArray), sv = .string sC ∧ sC.size = j ∧ j ≤ 4 * ds.length ∧ Hid (sC = ⟨(padL j n).toArray⟩) ∧ Hid (n < 10 ^ j) ∧ Below w.heap.size w wq) (fun sv _ => match sv with | .string s => s.size | _ => 0)
      case atStart => exact ⟨4 * ds.length, sB, rfl, hsz, Nat.le_refl _, HB, HN4, hbel⟩
      case round =>
        obtain ⟨j, sC, rfl, hszC, hj, HC, HNJ, hbq⟩ := hrel
        by_cases hj0 : j = 0
        · subst hj0
          have hn0 : n = 0 := by have := HNJ.out; simpa using this
          have hse : sC = ⟨#[]⟩ := HC.out
          subst hse
          have HR : Hid (Lib.decDigits n = [48]) := by rw [Hid, hn0, Lib.decDigits_one (by omega)]; rfl
          clear hszC HC HB
          go_wp2
          go_ret
          exact ⟨by rw [HR.out]; rfl, hbq⟩
        · obtain ⟨m, rfl⟩ : ∃ m, j = m + 1 := ⟨j - 1, by omega⟩
          have hne : sC.toList.isEmpty = false := empty_no (fun e => by rw [e] at hszC; have h0 : (ByteArray.mk #[]).size = 0 := rfl; omega)
          have hs0 : 0 < sC.size := by omega
          have hT : sC[0].toNat = 48 + n / 10 ^ m := by
            have h1 := HC.out
            rw [padL_head, top_digit HNJ.out] at h1
            rw [first_of h1 hs0]
            have h2 := top_digit HNJ.out
            have h3 : n / 10 ^ m % 10 < 10 := Nat.mod_lt _ (by omega)
            exact dig_toNat (by omega)
          by_cases hm : m = 0
          · have HR : Hid (sC = ⟨(Lib.decDigits n).toArray⟩) := by rw [Hid, HC.out, padL_dec (by omega) HNJ.out (Or.inl (by omega))]
            have hsz1 : sC.size = 1 := by omega
            clear hszC hT HB HC
            go_wp2
            go_ret
            exact ⟨by rw [← HR.out]; rfl, hbq⟩
          · by_cases hz : n / 10 ^ m = 0
            · have hi0 : (sC[0].toNat : Int) = 48 := by omega
              have hsz2 : (1 : Int) < (sC.size : Int) := by omega
              have HN2 : Hid (n < 10 ^ m) := by
                rw [Hid]
                exact (Nat.div_eq_zero_iff_lt (Nat.pow_pos (by omega))).1 hz
              have HD : Hid (sC = ⟨(48 :: padL m n).toArray⟩) := by
                have h1 := HC.out
                rw [padL_head, hz] at h1
                rw [Hid, h1]
                rfl
              clear hT HB hz
              have HX := hide (extract_tail HD.out (padL_len m n))
              have HZ : Hid ((sC.extract 1 (m + 1)).size = m) := by rw [Hid, HX.out, size_mk, padL_len]
              go_wp2
              go_roundw
              case rel => exact ⟨m, _, rfl, HZ.out, by omega, HX, HN2, hbq⟩
              case measure => show (sC.extract 1 (m + 1)).size < sC.size; rw [HZ.out]; omega
            · have hi0 : (sC[0].toNat : Int) ≠ 48 := by omega
              have hsz2 : (1 : Int) < (sC.size : Int) := by omega
              have HR : Hid (sC = ⟨(Lib.decDigits n).toArray⟩) := by
                rw [Hid, HC.out, padL_dec (by omega) HNJ.out (Or.inr ?_)]
                show 10 ^ (m + 1 - 1) ≤ n
                rw [Nat.add_sub_cancel]
                rcases Nat.lt_or_ge n (10 ^ m) with h | h
                · exact absurd (Nat.div_eq_of_lt h) hz
                · exact h
              clear hT HB hz HC
              go_wp2
              go_ret
              exact ⟨by rw [← HR.out]; rfl, hbq⟩

set_option maxHeartbeats 1000000 in
set_option maxRecDepth 100000 in
theorem text_any (K : Nat) (hK : K ≤ 1000) (w : World) (x : Value) (p : Int) (q : Nat) (h : NumV w x p q) (hp : p.natAbs < 10000 ^ K) (hq : q < 10000 ^ K) :
    Calls Tryz.prog 107 #[x] w fun e w' => e = .returned (.string ⟨(fracText p q).toArray⟩) ∧ Below w.heap.size w w' := by
  have h0 := h
  obtain ⟨b, ao, l, cap, ao', l', cap', rfl, hv, hb, hu, hq0⟩ := h.parts
  have hboxP : Box3 (w.alloc (.cells #[.bool b, .slice ao l cap, .slice ao' l' cap'] 118)) w.heap.size (.bool b) (.slice ao l cap) (.slice ao' l' cap') := Box3.new _ _ _ _ _
  have hbW : Below w.heap.size w (w.alloc (.cells #[.bool b, .slice ao l cap, .slice ao' l' cap'] 118)) := (Below.refl _ _).alloc (Nat.le_refl _) _
  have hl1 : (Lib.decDigits p.natAbs).length ≤ 4 * K + 1 := Nat.le_trans (dec_len_le (4 * K + 1) _ (by rw [pow4] at hp; exact Nat.lt_of_lt_of_le hp (Nat.pow_le_pow_right (by omega) (by omega))) (by omega)) (Nat.le_refl _)
  have hl2 : (Lib.decDigits q).length ≤ 4 * K + 1 := Nat.le_trans (dec_len_le (4 * K + 1) _ (by rw [pow4] at hq; exact Nat.lt_of_lt_of_le hq (Nat.pow_le_pow_right (by omega) (by omega))) (by omega)) (Nat.le_refl _)
  have hz1 : (ByteArray.mk (Lib.decDigits p.natAbs).toArray).size ≤ 4 * K + 1 := by rw [size_mk]; exact hl1
  have hz2 : (ByteArray.mk (Lib.decDigits q).toArray).size ≤ 4 * K + 1 := by rw [size_mk]; exact hl2
  clear hl1 hl2
  obtain ⟨sU, hsU⟩ : ∃ sU, sU = ByteArray.mk (Lib.decDigits p.natAbs).toArray := ⟨_, rfl⟩
  obtain ⟨sD, hsD⟩ : ∃ sD, sD = ByteArray.mk (Lib.decDigits q).toArray := ⟨_, rfl⟩
  obtain ⟨sN, hsN⟩ : ∃ sN, sN = ByteArray.mk (Lib.itoa p).toArray := ⟨_, rfl⟩
  have HN : Hid (sN = if b then ⟨#[45]⟩ ++ sU else sU) := by
    rw [Hid, hsN, hsU, hb.out]
    by_cases hp0 : p < 0
    · rw [if_pos (by simpa using hp0), Lib.itoa, if_pos hp0]
      exact (ba_append [45] _).symm
    · rw [if_neg (by simpa using hp0), Lib.itoa, if_neg hp0, show p.toNat = p.natAbs by omega]
  have HT : Hid (ByteArray.mk (fracText p q).toArray = if q = 1 then sN else sN ++ ⟨#[47]⟩ ++ sD) := by
    rw [Hid, fracText]
    by_cases h1 : q = 1
    · rw [if_pos h1, if_pos h1, hsN]
    · rw [if_neg h1, if_neg h1, hsN, hsD]
      have e1 : ByteArray.mk (Lib.itoa p).toArray ++ ByteArray.mk #[47] = ByteArray.mk (Lib.itoa p ++ [47]).toArray := ba_append _ [47]
      rw [e1, ba_append, List.append_assoc]
  have HU := hide hsU
  have HD := hide hsD
  rw [← hsU] at hz1
  rw [← hsD] at hz2
  clear hsU hsD hsN hb
  go_enter Tryz.func107, Tryz.ntmps107
  go_wp2_with fail
  refine (decimals_any _ _ p.natAbs K (hv.alloc _) hp (by omega)).mono ?_
  rintro e w1 ⟨rfl, hb1⟩
  rw [← HU.out]
  have hP1 := hboxP.below hb1
  have hbl1 := hbW.trans (hb1.mono hbW.size)
  have hx1 := (h0.alloc (.cells #[.bool b, .slice ao l cap, .slice ao' l' cap'] 118)).below hb1
  have hu1 := (hu.alloc (.cells #[.bool b, .slice ao l cap, .slice ao' l' cap'] 118)).below hb1
  clear hb1 hboxP hbW hv hu h h0
  have hP := hP1
  obtain ⟨i0, i1, i2, i3, i4, i5, i6⟩ := hP
  have hszN : sN.size ≤ 4 * K + 2 := by
    rw [HN.out]
    split
    · rw [ByteArray.size_append, show (ByteArray.mk #[45]).size = 1 from rfl]; omega
    · omega
  go_upto_if 8 with fail
  go_cut [3] (fun v wc => v = .string sN ∧ w1 = wc)
  case first =>
    cases b with
    | true =>
      have hn := HN.out
      rw [if_pos rfl] at hn
      subst hn
      go_wp2_with fail
      all_goals go_meet
      all_goals exact ⟨rfl, rfl⟩
    | false =>
      have hn := HN.out
      rw [if_neg (by simp)] at hn
      subst hn
      go_wp2_with fail
      all_goals go_meet
      all_goals exact ⟨rfl, rfl⟩
  case rest =>
    obtain ⟨rfl, rfl⟩ := hcut
    clear HN
    go_wp2_with fail
    refine (whole_any _ _ p q hx1 K hq (by omega)).mono ?_
    rintro e w2 ⟨rfl, hb2⟩
    have hP2 := hP1.below hb2
    have hbl2 := hbl1.trans (hb2.mono hbl1.size)
    have hu2 := hu1.below hb2
    clear hb2 hP1 hbl1 hu1 hx1 i0 i1 i2 i3 i4 i5 i6
    obtain ⟨i0, i1, i2, i3, i4, i5, i6⟩ := hP2
    by_cases hq1 : q = 1
    · have ht := HT.out
      rw [if_pos hq1] at ht
      have HT2 := hide ht
      clear ht
      rw [decide_eq_true hq1]
      go_wp2
      go_ret
      exact ⟨by rw [HT2.out]; rfl, hbl2⟩
    · have ht := HT.out
      rw [if_neg hq1] at ht
      have HT2 := hide ht
      clear ht
      rw [decide_eq_false hq1]
      go_wp2_with fail
      refine (decimals_any _ _ q K hu2 hq (by omega)).mono ?_
      rintro e w3 ⟨rfl, hb3⟩
      rw [← HD.out]
      go_wp2
      go_ret
      exact ⟨by rw [HT2.out]; rfl, hbl2.trans (hb3.mono hbl2.size)⟩
end Go.Proofs.YtnhfdcfnojnofaaGreatDoor.T

/-
  strings.Cut at a stroke, of texts of any length.
-/
namespace Go.Proofs.YtnhfdcfnojnofaaGreatDoor
open Go.RowKit

theorem indexByte_index (l : List UInt8) : Lib.indexByte l 47 = Lib.index l [47] := by
  induction l with
  | nil => rfl
  | cons c r ih =>
    simp only [Lib.indexByte, Lib.index, ih]
    by_cases h : c = 47
    · subst h; simp
    · have hp : ([47] : List UInt8).isPrefixOf (c :: r) = false := by simp [List.isPrefixOf, Ne.symm h]
      simp [h, hp]

set_option maxHeartbeats 1000000 in
set_option maxRecDepth 100000 in
theorem index_stroke (s : ByteArray) (w : World) :
    Calls Tryz.prog 212 #[.string s, .string ⟨#[47]⟩] w fun e w' => e = .returned (.int .i64 (Lib.index s.data.toList [47])) ∧ w' = w := by
  by_cases h : s = ⟨#[47]⟩
  · subst h
    go_enter Tryz.func212, Tryz.ntmps212
    go_wp2
    go_ret
    exact ⟨rfl, rfl⟩
  · have hne : (([47] : List UInt8) == s.toList) = false := by
      rw [beq_eq_false_iff_ne, ByteArray.toList_eq]
      intro e
      exact h (by obtain ⟨⟨l⟩⟩ := s; simp at e; rw [← e])
    have HB := hide (indexByte_index s.data.toList)
    go_enter Tryz.func212, Tryz.ntmps212
    go_wp2_with fail
    refine (Tryz.stringslite_IndexByte s 47 _).mono ?_
    rintro e w1 ⟨rfl, rfl⟩
    go_wp2
    go_ret
    exact ⟨ret_int HB.out, rfl⟩

theorem index_bd (l : List UInt8) : -1 ≤ Lib.index l [47] ∧ Lib.index l [47] < l.length ∨ Lib.index l [47] = -1 := by
  by_cases h : Lib.index l [47] = -1
  · exact Or.inr h
  · left
    refine ⟨Lib.index_ge _ _, ?_⟩
    rw [← indexByte_index] at h ⊢
    have h0 := Lib.indexByte_ge l 47
    obtain ⟨o, ho⟩ : ∃ o : Nat, Lib.indexByte l 47 = (o : Int) := ⟨(Lib.indexByte l 47).toNat, by omega⟩
    rw [ho]
    have h1 := (Lib.indexByte_some ho).1
    have h2 := (List.getElem?_eq_some_iff.1 h1).1
    omega

set_option maxHeartbeats 1000000 in
set_option maxRecDepth 100000 in
theorem cut_inner (s : ByteArray) (w : World) (hs : s.size ≤ 9223372036854775807) :
    Calls Tryz.prog 127 #[.string s, .string ⟨#[47]⟩] w fun e w' => e = .returned (.tuple #[.string ⟨(Lib.cut s.data.toList [47]).1.toArray⟩, .string ⟨(Lib.cut s.data.toList [47]).2.1.toArray⟩, .bool (Lib.cut s.data.toList [47]).2.2]) ∧ ∃ n, w' = w.drewN n := by
  have hbd := index_bd s.data.toList
  rw [toList_len] at hbd
  have hcl : s.data.toList.length = s.size := toList_len s
  have HI := hide (index_stroke s)
  have HC : Hid (Lib.cut s.data.toList [47] = if 0 ≤ Lib.index s.data.toList [47] then (s.data.toList.take (Lib.index s.data.toList [47]).toNat, s.data.toList.drop ((Lib.index s.data.toList [47]).toNat + 1), true) else (s.data.toList, [], false)) := by rw [Hid, Lib.cut]; rfl
  generalize Lib.index s.data.toList [47] = z at *
  by_cases hz : 0 ≤ z
  · obtain ⟨k, rfl⟩ : ∃ k : Nat, z = (k : Int) := ⟨z.toNat, by omega⟩
    have hc := HC.out
    rw [if_pos hz, Int.toNat_natCast] at hc
    have HC2 := hide hc
    have e1 : ByteArray.mk (s.data.toList.take k).toArray = s.extract 0 k := (T.ba_of (by rw [Lib.extract_data, List.drop_zero, Nat.sub_zero])).symm
    have e2 : ByteArray.mk (s.data.toList.drop (k + 1)).toArray = s.extract (k + 1) s.size := (T.ba_of (by rw [Lib.extract_to_end])).symm
    have E1 := hide e1
    have E2 := hide e2
    have hk : k < s.size := by omega
    clear hc HC e1 e2 hbd hz
    go_enter Tryz.func127, Tryz.ntmps127
    go_wp2_with fail
    refine (HI.out _).mono ?_
    rintro e w1 ⟨rfl, rfl⟩
    go_wp2
    go_region
    all_goals go_wp2
    all_goals exact bodyPost_ret (v := .tuple #[.string (s.extract 0 k), .string (s.extract (k + 1) s.size), .bool true]) (by simp [results, Tryz.results127, go_sem]) rfl ⟨by rw [HC2.out, E1.out, E2.out], 1, rfl⟩
  · obtain rfl : z = -1 := by omega
    have hc := HC.out
    rw [if_neg hz] at hc
    have HC2 := hide hc
    have e1 : ByteArray.mk s.data.toList.toArray = s := rfl
    clear hc HC hbd hz
    go_enter Tryz.func127, Tryz.ntmps127
    go_wp2_with fail
    refine (HI.out _).mono ?_
    rintro e w1 ⟨rfl, rfl⟩
    go_wp2
    exact bodyPost_ret (v := .tuple #[.string s, .string ⟨#[]⟩, .bool false]) (by simp [results, Tryz.results127, go_sem]) rfl ⟨by rw [HC2.out], 0, rfl⟩

set_option maxHeartbeats 400000 in
set_option maxRecDepth 100000 in
theorem cut_any (s : ByteArray) (w : World) (hs : s.size ≤ 9223372036854775807) :
    Calls Tryz.prog 73 #[.string s, .string ⟨#[47]⟩] w fun e w' => e = .returned (.tuple #[.string ⟨(Lib.cut s.data.toList [47]).1.toArray⟩, .string ⟨(Lib.cut s.data.toList [47]).2.1.toArray⟩, .bool (Lib.cut s.data.toList [47]).2.2]) ∧ ∃ n, w' = w.drewN n := by
  have HI := hide (fun W => cut_inner s W hs)
  generalize Lib.cut s.data.toList [47] = c at *
  go_enter Tryz.func73, Tryz.ntmps73
  go_wp2_with fail
  refine (HI.out _).mono ?_
  rintro e w1 ⟨rfl, q, rfl⟩
  go_wp2
  exact bodyPost_ret (v := .tuple #[.string ⟨c.1.toArray⟩, .string ⟨c.2.1.toArray⟩, .bool c.2.2]) (by simp [results, Tryz.results73, go_sem]) rfl ⟨rfl, q, rfl⟩
end Go.Proofs.YtnhfdcfnojnofaaGreatDoor
