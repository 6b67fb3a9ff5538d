/-
  Part 11 of the texts ahead of Pls1: Tr3, Tr4.
-/
import Derived.Test.YtnhfdcfnojnofaaGreatDoorPls1Z10
import Derived.Laws.AppendOwnNone
set_option linter.unusedSimpArgs false
set_option linter.unusedVariables false
/-
  What the document's own plus, less do (package planesref).
-/
namespace Go.Proofs.YtnhfdcfnojnofaaGreatDoor.T
open Go.RowKit

theorem ge_of_len {ds : List Nat} (ht : Top ds) {k : Nat} (h : k < ds.length) : 10000 ^ k ≤ val ds := by
  obtain ⟨j, hj⟩ : ∃ j, ds.length = j + 1 := ⟨ds.length - 1, by omega⟩
  exact Nat.le_trans (pow_mono (by omega)) (top_le ht j hj)

set_option maxHeartbeats 4000000 in
set_option maxRecDepth 100000 in
theorem plus_any (w : World) (u v : Value) (m n K : Nat) (hu : NV w u m) (hv : NV w v n) (hm : m < 10000 ^ K) (hn : n < 10000 ^ K) (hK : K ≤ 1000000000) :
    Calls Tryz.prog 185 #[u, v] w fun e w' => ∃ x, e = .returned x ∧ NV w' x (m + n) ∧ Below w.heap.size w w' := by
  obtain ⟨ds, hs, hd, ht, rfl⟩ := hu
  obtain ⟨es, hs', hd', ht', rfl⟩ := hv
  have hl := top_len ht hm
  have hl' := top_len ht' hn
  obtain ⟨ao, cap, rfl, hc⟩ := hs.shape
  obtain ⟨ao', cap', rfl, hc'⟩ := hs'.shape
  obtain ⟨i0, hi, hz0, hz1, hz2⟩ := info_parts Tryz.infoInt
  obtain ⟨L, hLd, hLe, hLK, hL⟩ : ∃ L, ds.length ≤ L ∧ es.length ≤ L ∧ L ≤ K ∧ (L ≤ ds.length ∨ L ≤ es.length) := ⟨max ds.length es.length, by omega, by omega, by omega, by omega⟩
  clear hm hn
  go_enter Tryz.func185, Tryz.ntmps185
  go_wp2
  go_loopw [5, 6, 7] (fun ov cv iv wr => ∃ (c : Nat) (os : List Nat) (ap : Option Addr) (kp : Nat), ov = .slice ap os.length kp ∧ cv = .int .i64 (c : Nat) ∧ iv = .int .i64 (os.length : Nat) ∧ c ≤ 1 ∧ os.length ≤ L + 1 ∧ (L < os.length → c = 0) ∧
      wr.ownsRow w.heap.size 3 1 (.slice ap os.length kp) os.length (os.map encD) ∧ Dig os ∧ Hid (val os + 10000 ^ os.length * c = val (ds.take os.length) + val (es.take os.length)) ∧ Hid (∀ j, os.length = j + 1 → 10000 ^ j ≤ val ds + val es) ∧ Below w.heap.size w wr) (fun _ _ iv _ => ((L : Int) + 2 - intOf iv).toNat)
  case atStart => exact ⟨0, [], none, 0, rfl, rfl, rfl, by omega, by simp, fun _ => rfl, World.ownsRow_nil _ _ _ _, fun d hd => by simp at hd, by simp [Hid, val], fun j hj => by simp at hj, Below.refl _ _⟩
  case round =>
    obtain ⟨c, os, ap, kp, rfl, rfl, rfl, hc1, hol, hoc, hown, hod, hov, hog, hbel⟩ := hrel
    have HT := hide ht
    have HT' := hide ht'
    by_cases hk : os.length < ds.length
    · by_cases hk' : os.length < es.length
      · obtain ⟨b, off, rfl, hb, hrow⟩ := hs.row (by intro e; rw [e] at hk; simp at hk)
        have hck := (hbel.cell (p := ⟨b, off + os.length, none⟩) hb).trans (hrow os.length hk)
        have hdk := hd.get os.length
        obtain ⟨b', off', rfl, hb', hrow'⟩ := hs'.row (by intro e; rw [e] at hk'; simp at hk')
        have hck' := (hbel.cell (p := ⟨b', off' + os.length, none⟩) hb').trans (hrow' os.length hk')
        have hdk' := hd'.get os.length
        have HG : Hid (∀ j, os.length + 1 = j + 1 → 10000 ^ j ≤ val ds + val es) := by
          rw [Hid]
          intro j hj
          obtain rfl : os.length = j := by omega
          exact Nat.le_trans (ge_of_len HT.out hk) (Nat.le_add_right _ _)
        obtain ⟨C, hC⟩ : ∃ C, C = c + ds.getD os.length 0 + es.getD os.length 0 := ⟨_, rfl⟩
        have HST := hide (plus_step rfl hov.out hC)
        generalize ds.getD os.length 0 = x at *
        generalize es.getD os.length 0 = y at *
        have hC2 : (((c : Int) + (x : Int)) + (y : Int)) = (C : Int) := by omega
        have HCM : Hid ((((c : Int) + (x : Int)) + (y : Int)) % 10000 = ((C % 10000 : Nat) : Int)) := by rw [Hid, hC2]; rfl
        have HCD : Hid ((((c : Int) + (x : Int)) + (y : Int)) / 10000 = ((C / 10000 : Nat) : Int)) := by rw [Hid, hC2]; rfl
        have hq : C / 10000 ≤ 1 := by omega
        have hr : C % 10000 < 10000 := by omega
        have hkL : os.length ≤ L := by omega
        clear hC hC2 hov hog hoc HT HT'
        go_wp2_with (at_builtin; refine wpList_append_own _ rfl _ _ 35 rfl w.heap.size 3 i0 (.int .i64 0) 1 8 Tryz.underlying35 hi hz0 hz1 hz2 rfl (by decide) (.slice ap os.length kp) os.length (os.map encD) rfl (hown.alloc _) ⟨wr.heap.size, 0, none⟩ 1 1 [.int .i64 ((((c : Int) + (x : Int)) + (y : Int)) % 10000)] rfl rfl ?c1 ?c2 (by unfold maxLen; omega) (by omega) (by have := hbel.size; simp; omega) ?_)
        case c1 => exact cell_one_new _ _ _
        case c2 => intro u hu; simp at hu; subst hu; rfl
        intro v3 w3 hown3 hgrow hnn
        obtain ⟨os', hos', hol', cap3, g3, rfl, hown4, hb3⟩ := grown_snoc hown hbel hown3 hgrow hnn HCM.out
        go_wp2
        go_roundw
        case rel =>
          refine ⟨C / 10000, os', _, cap3, rfl, by rw [HCD.out], by rw [hol']; simp, hq, by omega, by intro h; omega, hown4, by rw [hos']; exact dig_snoc hod hr, ?_, ?_, hb3⟩
          · rw [Hid, hol', hos']; exact HST.out
          · rw [hol']; exact HG
        case measure => simp [intOf]; omega
      · obtain ⟨b, off, rfl, hb, hrow⟩ := hs.row (by intro e; rw [e] at hk; simp at hk)
        have hck := (hbel.cell (p := ⟨b, off + os.length, none⟩) hb).trans (hrow os.length hk)
        have hdk := hd.get os.length
        have HG : Hid (∀ j, os.length + 1 = j + 1 → 10000 ^ j ≤ val ds + val es) := by
          rw [Hid]
          intro j hj
          obtain rfl : os.length = j := by omega
          exact Nat.le_trans (ge_of_len HT.out hk) (Nat.le_add_right _ _)
        obtain ⟨C, hC⟩ : ∃ C, C = c + ds.getD os.length 0 + es.getD os.length 0 := ⟨_, rfl⟩
        have HST := hide (plus_step rfl hov.out hC)
        rw [getD_none es _ (by omega)] at hC
        generalize ds.getD os.length 0 = x at *
        have hC2 : ((c : Int) + (x : Int)) = (C : Int) := by omega
        have HCM : Hid (((c : Int) + (x : Int)) % 10000 = ((C % 10000 : Nat) : Int)) := by rw [Hid, hC2]; rfl
        have HCD : Hid (((c : Int) + (x : Int)) / 10000 = ((C / 10000 : Nat) : Int)) := by rw [Hid, hC2]; rfl
        have hq : C / 10000 ≤ 1 := by omega
        have hr : C % 10000 < 10000 := by omega
        have hkL : os.length ≤ L := by omega
        clear hC hC2 hov hog hoc HT HT'
        go_wp2_with (at_builtin; refine wpList_append_own _ rfl _ _ 35 rfl w.heap.size 3 i0 (.int .i64 0) 1 8 Tryz.underlying35 hi hz0 hz1 hz2 rfl (by decide) (.slice ap os.length kp) os.length (os.map encD) rfl (hown.alloc _) ⟨wr.heap.size, 0, none⟩ 1 1 [.int .i64 (((c : Int) + (x : Int)) % 10000)] rfl rfl ?c1 ?c2 (by unfold maxLen; omega) (by omega) (by have := hbel.size; simp; omega) ?_)
        case c1 => exact cell_one_new _ _ _
        case c2 => intro u hu; simp at hu; subst hu; rfl
        intro v3 w3 hown3 hgrow hnn
        obtain ⟨os', hos', hol', cap3, g3, rfl, hown4, hb3⟩ := grown_snoc hown hbel hown3 hgrow hnn HCM.out
        go_wp2
        go_roundw
        case rel =>
          refine ⟨C / 10000, os', _, cap3, rfl, by rw [HCD.out], by rw [hol']; simp, hq, by omega, by intro h; omega, hown4, by rw [hos']; exact dig_snoc hod hr, ?_, ?_, hb3⟩
          · rw [Hid, hol', hos']; exact HST.out
          · rw [hol']; exact HG
        case measure => simp [intOf]; omega
    · by_cases hk' : os.length < es.length
      · obtain ⟨b', off', rfl, hb', hrow'⟩ := hs'.row (by intro e; rw [e] at hk'; simp at hk')
        have hck' := (hbel.cell (p := ⟨b', off' + os.length, none⟩) hb').trans (hrow' os.length hk')
        have hdk' := hd'.get os.length
        have HG : Hid (∀ j, os.length + 1 = j + 1 → 10000 ^ j ≤ val ds + val es) := by
          rw [Hid]
          intro j hj
          obtain rfl : os.length = j := by omega
          exact Nat.le_trans (ge_of_len HT'.out hk') (Nat.le_add_left _ _)
        obtain ⟨C, hC⟩ : ∃ C, C = c + ds.getD os.length 0 + es.getD os.length 0 := ⟨_, rfl⟩
        have HST := hide (plus_step rfl hov.out hC)
        rw [getD_none ds _ (by omega)] at hC
        generalize es.getD os.length 0 = y at *
        have hC2 : ((c : Int) + (y : Int)) = (C : Int) := by omega
        have HCM : Hid (((c : Int) + (y : Int)) % 10000 = ((C % 10000 : Nat) : Int)) := by rw [Hid, hC2]; rfl
        have HCD : Hid (((c : Int) + (y : Int)) / 10000 = ((C / 10000 : Nat) : Int)) := by rw [Hid, hC2]; rfl
        have hq : C / 10000 ≤ 1 := by omega
        have hr : C % 10000 < 10000 := by omega
        have hkL : os.length ≤ L := by omega
        clear hC hC2 hov hog hoc HT HT'
        go_wp2_with (at_builtin; refine wpList_append_own _ rfl _ _ 35 rfl w.heap.size 3 i0 (.int .i64 0) 1 8 Tryz.underlying35 hi hz0 hz1 hz2 rfl (by decide) (.slice ap os.length kp) os.length (os.map encD) rfl (hown.alloc _) ⟨wr.heap.size, 0, none⟩ 1 1 [.int .i64 (((c : Int) + (y : Int)) % 10000)] rfl rfl ?c1 ?c2 (by unfold maxLen; omega) (by omega) (by have := hbel.size; simp; omega) ?_)
        case c1 => exact cell_one_new _ _ _
        case c2 => intro u hu; simp at hu; subst hu; rfl
        intro v3 w3 hown3 hgrow hnn
        obtain ⟨os', hos', hol', cap3, g3, rfl, hown4, hb3⟩ := grown_snoc hown hbel hown3 hgrow hnn HCM.out
        go_wp2
        go_roundw
        case rel =>
          refine ⟨C / 10000, os', _, cap3, rfl, by rw [HCD.out], by rw [hol']; simp, hq, by omega, by intro h; omega, hown4, by rw [hos']; exact dig_snoc hod hr, ?_, ?_, hb3⟩
          · rw [Hid, hol', hos']; exact HST.out
          · rw [hol']; exact HG
        case measure => simp [intOf]; omega
      · by_cases hc0 : c = 0
        · subst hc0
          have hfin : val os = val ds + val es := by
            have := hov.out
            rw [take_all (by omega), take_all (by omega), Nat.mul_zero, Nat.add_zero] at this
            exact this
          have HF := hide hfin
          clear hfin hov
          go_wp2
          go_ret
          exact ⟨_, rfl, ⟨os, sl_of_owns hown, hod, top_of_ge hod (by rw [HF.out]; exact hog.out), HF.out⟩, hbel⟩
        · have HG : Hid (∀ j, os.length + 1 = j + 1 → 10000 ^ j ≤ val ds + val es) := by
            rw [Hid]
            intro j hj
            obtain rfl : os.length = j := by omega
            have h1 := hov.out
            rw [take_all (by omega), take_all (by omega)] at h1
            have h2 : 10000 ^ os.length * 1 ≤ 10000 ^ os.length * c := Nat.mul_le_mul_left _ (by omega)
            omega
          obtain ⟨C, hC⟩ : ∃ C, C = c + ds.getD os.length 0 + es.getD os.length 0 := ⟨_, rfl⟩
          have HST := hide (plus_step rfl hov.out hC)
          rw [getD_none ds _ (by omega)] at hC
          rw [getD_none es _ (by omega)] at hC
          have hC2 : (c : Int) = (C : Int) := by omega
          have HCM : Hid ((c : Int) % 10000 = ((C % 10000 : Nat) : Int)) := by rw [Hid, hC2]; rfl
          have HCD : Hid ((c : Int) / 10000 = ((C / 10000 : Nat) : Int)) := by rw [Hid, hC2]; rfl
          have hq : C / 10000 ≤ 1 := by omega
          have hr : C % 10000 < 10000 := by omega
          have hq0 : C / 10000 = 0 := by omega
          have hkL : os.length ≤ L := by
            by_cases h : L < os.length
            · exact absurd (hoc h) hc0
            · omega
          have hcz : (0 : Int) < (c : Int) := by omega
          clear hC hC2 hov hog hoc HT HT'
          go_wp2_with (at_builtin; refine wpList_append_own _ rfl _ _ 35 rfl w.heap.size 3 i0 (.int .i64 0) 1 8 Tryz.underlying35 hi hz0 hz1 hz2 rfl (by decide) (.slice ap os.length kp) os.length (os.map encD) rfl (hown.alloc _) ⟨wr.heap.size, 0, none⟩ 1 1 [.int .i64 ((c : Int) % 10000)] rfl rfl ?c1 ?c2 (by unfold maxLen; omega) (by omega) (by have := hbel.size; simp; omega) ?_)
          case c1 => exact cell_one_new _ _ _
          case c2 => intro u hu; simp at hu; subst hu; rfl
          intro v3 w3 hown3 hgrow hnn
          obtain ⟨os', hos', hol', cap3, g3, rfl, hown4, hb3⟩ := grown_snoc hown hbel hown3 hgrow hnn HCM.out
          go_wp2
          go_roundw
          case rel =>
            refine ⟨C / 10000, os', _, cap3, rfl, by rw [HCD.out], by rw [hol']; simp, hq, by omega, by intro h; omega, hown4, by rw [hos']; exact dig_snoc hod hr, ?_, ?_, hb3⟩
            · rw [Hid, hol', hos']; exact HST.out
            · rw [hol']; exact HG
          case measure => simp [intOf]; omega


theorem less_end {os ds es : List Nat} {c : Nat} (hod : Dig os) (hl : os.length = ds.length) (hd : Dig ds) (ht' : Top es) (hle : val es ≤ val ds) (hi : val os + val (es.take os.length) = val (ds.take os.length) + 10000 ^ os.length * c) : val os = val ds - val es := by
  have h1 : es.length ≤ ds.length := by
    by_cases h : ds.length < es.length
    · have := top_lt_of_len hd ht' h; omega
    · omega
  rw [take_all (by omega), take_all (by omega)] at hi
  have h2 := val_lt hod
  cases c with
  | zero => omega
  | succ c =>
    have h3 : 10000 ^ os.length * 1 ≤ 10000 ^ os.length * (c + 1) := Nat.mul_le_mul_left _ (by omega)
    omega

set_option maxHeartbeats 4000000 in
set_option maxRecDepth 100000 in
theorem less_any (w : World) (u v : Value) (m n K : Nat) (hu : NV w u m) (hv : NV w v n) (hm : m < 10000 ^ K) (hle : n ≤ m) (hK : K ≤ 1000000000) :
    Calls Tryz.prog 187 #[u, v] w fun e w' => ∃ x, e = .returned x ∧ NV w' x (m - n) ∧ Below w.heap.size w w' := by
  obtain ⟨ds, hs, hd, ht, rfl⟩ := hu
  obtain ⟨es, hs', hd', ht', rfl⟩ := hv
  have hl := top_len ht hm
  have hl' := top_len ht' (Nat.lt_of_le_of_lt hle hm)
  obtain ⟨ao, cap, rfl, hc⟩ := hs.shape
  obtain ⟨ao', cap', rfl, hc'⟩ := hs'.shape
  obtain ⟨i0, hi, hz0, hz1, hz2⟩ := info_parts Tryz.infoInt
  have HLE := hide hle
  have HT' := hide ht'
  clear hm hle ht ht'
  go_enter Tryz.func187, Tryz.ntmps187
  go_wp2
  go_loopw [5, 6, 7] (fun ov cv iv wr => ∃ (c : Nat) (os : List Nat) (ap : Option Addr) (kp : Nat), ov = .slice ap os.length kp ∧ cv = .int .i64 (c : Nat) ∧ iv = .int .i64 (os.length : Nat) ∧ c ≤ 1 ∧ os.length ≤ ds.length ∧
      wr.ownsRow w.heap.size 3 1 (.slice ap os.length kp) os.length (os.map encD) ∧ Dig os ∧ Hid (val os + val (es.take os.length) = val (ds.take os.length) + 10000 ^ os.length * c) ∧ Below w.heap.size w wr) (fun _ _ iv _ => ((ds.length : Int) - intOf iv).toNat)
  case atStart => exact ⟨0, [], none, 0, rfl, rfl, rfl, by omega, by simp, World.ownsRow_nil _ _ _ _, fun d hd => by simp at hd, by simp [Hid, val], Below.refl _ _⟩
  case round =>
    obtain ⟨c, os, ap, kp, rfl, rfl, rfl, hc1, hol, hown, hod, hov, hbel⟩ := hrel
    by_cases hk : os.length < ds.length
    · obtain ⟨b, off, rfl, hb, hrow⟩ := hs.row (by intro e; rw [e] at hk; simp at hk)
      have hck := (hbel.cell (p := ⟨b, off + os.length, none⟩) hb).trans (hrow os.length hk)
      have hdk := hd.get os.length
      have HOV : Hid (∀ d c', d + es.getD os.length 0 + c = ds.getD os.length 0 + 10000 * c' → val (os ++ [d]) + val (es.take (os.length + 1)) = val (ds.take (os.length + 1)) + 10000 ^ (os.length + 1) * c') := fun d c' h => less_step rfl hov.out h
      have hdk' := hd'.get os.length
      clear hov
      by_cases hk' : os.length < es.length
      · obtain ⟨b', off', rfl, hb', hrow'⟩ := hs'.row (by intro e; rw [e] at hk'; simp at hk')
        have hck' := (hbel.cell (p := ⟨b', off' + os.length, none⟩) hb').trans (hrow' os.length hk')
        generalize ds.getD os.length 0 = x at *
        generalize es.getD os.length 0 = y at *
        by_cases hneg : (x : Int) - (c : Int) - (y : Int) < 0
        · obtain ⟨d, hdd, hdl⟩ : ∃ d : Nat, (x : Int) - (c : Int) - (y : Int) + 10000 = (d : Int) ∧ d < 10000 := ⟨x + 10000 - c - y, by omega, by omega⟩
          have hst := HOV.out d 1 (by omega)
          have HST := hide hst
          have HDD := hide hdd
          clear hst HOV hdd
          go_wp2_with (at_builtin; refine wpList_append_own _ rfl _ _ 35 rfl w.heap.size 3 i0 (.int .i64 0) 1 8 Tryz.underlying35 hi hz0 hz1 hz2 rfl (by decide) (.slice ap os.length kp) os.length (os.map encD) rfl (hown.alloc _) ⟨wr.heap.size, 0, none⟩ 1 1 [.int .i64 ((x : Int) - (c : Int) - (y : Int) + 10000)] rfl rfl (cell_one_new _ _ _) ?c2 (by unfold maxLen; omega) (by omega) (by have := hbel.size; simp; omega) ?_)
          case c2 => first | rfl | (intro u hu; simp at hu; subst hu; rfl)
          intro v3 w3 hown3 hgrow hnn
          obtain ⟨os', hos', hol', cap3, g3, rfl, hown4, hb3⟩ := grown_snoc hown hbel hown3 hgrow hnn HDD.out
          go_wp2
          go_roundw
          case rel =>
            refine ⟨1, os', _, cap3, rfl, rfl, by rw [hol']; simp, by omega, by omega, hown4, by rw [hos']; exact dig_snoc hod hdl, ?_, hb3⟩
            rw [Hid, hol', hos']; exact HST.out
          case measure => simp [intOf]; omega
        · obtain ⟨d, hdd, hdl⟩ : ∃ d : Nat, (x : Int) - (c : Int) - (y : Int) = (d : Int) ∧ d < 10000 := ⟨x - c - y, by omega, by omega⟩
          have hst := HOV.out d 0 (by omega)
          have HST := hide hst
          have HDD := hide hdd
          clear hst HOV hdd
          go_wp2_with (at_builtin; refine wpList_append_own _ rfl _ _ 35 rfl w.heap.size 3 i0 (.int .i64 0) 1 8 Tryz.underlying35 hi hz0 hz1 hz2 rfl (by decide) (.slice ap os.length kp) os.length (os.map encD) rfl (hown.alloc _) ⟨wr.heap.size, 0, none⟩ 1 1 [.int .i64 ((x : Int) - (c : Int) - (y : Int))] rfl rfl (cell_one_new _ _ _) ?c2 (by unfold maxLen; omega) (by omega) (by have := hbel.size; simp; omega) ?_)
          case c2 => first | rfl | (intro u hu; simp at hu; subst hu; rfl)
          intro v3 w3 hown3 hgrow hnn
          obtain ⟨os', hos', hol', cap3, g3, rfl, hown4, hb3⟩ := grown_snoc hown hbel hown3 hgrow hnn HDD.out
          go_wp2
          go_roundw
          case rel =>
            refine ⟨0, os', _, cap3, rfl, rfl, by rw [hol']; simp, by omega, by omega, hown4, by rw [hos']; exact dig_snoc hod hdl, ?_, hb3⟩
            rw [Hid, hol', hos']; exact HST.out
          case measure => simp [intOf]; omega
      · have hy : es.getD os.length 0 = 0 := getD_none es _ (by omega)
        generalize ds.getD os.length 0 = x at *
        generalize es.getD os.length 0 = y at *
        subst hy
        by_cases hneg : (x : Int) - (c : Int) < 0
        · obtain ⟨d, hdd, hdl⟩ : ∃ d : Nat, (x : Int) - (c : Int) + 10000 = (d : Int) ∧ d < 10000 := ⟨x + 10000 - c, by omega, by omega⟩
          have hst := HOV.out d 1 (by omega)
          have HST := hide hst
          have HDD := hide hdd
          clear hst HOV hdd
          go_wp2_with (at_builtin; refine wpList_append_own _ rfl _ _ 35 rfl w.heap.size 3 i0 (.int .i64 0) 1 8 Tryz.underlying35 hi hz0 hz1 hz2 rfl (by decide) (.slice ap os.length kp) os.length (os.map encD) rfl (hown.alloc _) ⟨wr.heap.size, 0, none⟩ 1 1 [.int .i64 ((x : Int) - (c : Int) + 10000)] rfl rfl (cell_one_new _ _ _) ?c2 (by unfold maxLen; omega) (by omega) (by have := hbel.size; simp; omega) ?_)
          case c2 => first | rfl | (intro u hu; simp at hu; subst hu; rfl)
          intro v3 w3 hown3 hgrow hnn
          obtain ⟨os', hos', hol', cap3, g3, rfl, hown4, hb3⟩ := grown_snoc hown hbel hown3 hgrow hnn HDD.out
          go_wp2
          go_roundw
          case rel =>
            refine ⟨1, os', _, cap3, rfl, rfl, by rw [hol']; simp, by omega, by omega, hown4, by rw [hos']; exact dig_snoc hod hdl, ?_, hb3⟩
            rw [Hid, hol', hos']; exact HST.out
          case measure => simp [intOf]; omega
        · obtain ⟨d, hdd, hdl⟩ : ∃ d : Nat, (x : Int) - (c : Int) = (d : Int) ∧ d < 10000 := ⟨x - c, by omega, by omega⟩
          have hst := HOV.out d 0 (by omega)
          have HST := hide hst
          have HDD := hide hdd
          clear hst HOV hdd
          go_wp2_with (at_builtin; refine wpList_append_own _ rfl _ _ 35 rfl w.heap.size 3 i0 (.int .i64 0) 1 8 Tryz.underlying35 hi hz0 hz1 hz2 rfl (by decide) (.slice ap os.length kp) os.length (os.map encD) rfl (hown.alloc _) ⟨wr.heap.size, 0, none⟩ 1 1 [.int .i64 ((x : Int) - (c : Int))] rfl rfl (cell_one_new _ _ _) ?c2 (by unfold maxLen; omega) (by omega) (by have := hbel.size; simp; omega) ?_)
          case c2 => first | rfl | (intro u hu; simp at hu; subst hu; rfl)
          intro v3 w3 hown3 hgrow hnn
          obtain ⟨os', hos', hol', cap3, g3, rfl, hown4, hb3⟩ := grown_snoc hown hbel hown3 hgrow hnn HDD.out
          go_wp2
          go_roundw
          case rel =>
            refine ⟨0, os', _, cap3, rfl, rfl, by rw [hol']; simp, by omega, by omega, hown4, by rw [hos']; exact dig_snoc hod hdl, ?_, hb3⟩
            rw [Hid, hol', hos']; exact HST.out
          case measure => simp [intOf]; omega
    · have hfin := less_end hod (by omega) hd HT'.out HLE.out hov.out
      have HF := hide hfin
      clear hfin hov
      go_wp2_with fail
      refine (trim_any _ _ os (sl_of_owns hown) (by omega)).mono ?_
      rintro e w3 ⟨⟨x, rfl, hx⟩, rfl⟩
      go_wp2
      go_ret
      exact ⟨x, rfl, nv_trim hx hod HF.out, hbel⟩
end Go.Proofs.YtnhfdcfnojnofaaGreatDoor.T

/-
  What the document's own product does (package planesref).
-/
namespace Go.Proofs.YtnhfdcfnojnofaaGreatDoor.T
open Go.RowKit

/-- A list of places behind a row of one's own. -/
theorem append_sl {w : World} {ops : Array Oper} {rest : List Oper} {o : Oper} {a : Act} {Q : Exit → Act → World → Prop} (hgd : o.guard = none) (s x : Operand)
    (ho : o.op = .call { callee := .builtin .append, args := #[s, x], argTypes := #[35, 35] }) (base : Nat) (hbase : base ≤ w.heap.size) (ap : Option Addr) (kp : Nat) (os : List Nat) (hs : a.eval s = .slice ap os.length kp)
    (hown : w.ownsRow base 3 1 (.slice ap os.length kp) os.length (os.map encD)) (vx : Value) (ds : List Nat) (hx : a.eval x = vx) (hsl : Sl w vx ds) (hlen : os.length + ds.length ≤ 1000000000000)
    (h : ∀ ap' kp' w', w'.ownsRow base 3 1 (.slice ap' (os ++ ds).length kp') (os ++ ds).length ((os ++ ds).map encD) → (∀ B w0, Below B w0 w → B ≤ base → Below B w0 w') → wpList Tryz.prog ops Q rest (a.put o.dst (.slice ap' (os ++ ds).length kp')) w') :
    wpList Tryz.prog ops Q (o :: rest) a w := by
  obtain ⟨i0, hi, hz0, hz1, hz2⟩ := info_parts Tryz.infoInt
  rcases hsl with ⟨rfl, rfl⟩ | ⟨g, off, cap, rfl, hc, hg, hrow, _⟩
  · refine wpList_append_own_none hgd s x 35 ho base 3 i0 1 Tryz.underlying35 hi _ _ _ hs hown hx ?_
    have h2 := h ap kp w (by simpa using hown) (fun B w0 hb _ => hb)
    simpa using h2
  · refine wpList_append_own w hgd s x 35 ho base 3 i0 (.int .i64 0) 1 8 Tryz.underlying35 hi hz0 hz1 hz2 rfl (by decide) _ _ _ hs hown ⟨g, off, none⟩ ds.length cap (ds.map encD) hx (by simp) (row_news hrow) (encD_one ds) (by unfold maxLen; omega) (by omega) hbase ?_
    intro v' w' hown' hgrow hnn
    have e : os.map encD ++ ds.map encD = (os ++ ds).map encD := by simp
    have e2 : os.length + ds.length = (os ++ ds).length := by simp
    rw [e, e2] at hown'
    have hbb : ∀ B w0, Below B w0 w → B ≤ base → Below B w0 w' := fun B w0 hb hB => hb.grown hgrow (Nat.le_trans hB hbase) (fun k hk => Nat.le_trans hB (hown.lt k hk).1)
    by_cases hnil : v' = .slice none 0 0
    · subst hnil
      have h0 : (os ++ ds).length = 0 := by
        have h1 := (hnn.1 rfl)
        simp only [Value.slice.injEq] at h1
        rw [List.length_append]
        omega
      have h2 := h none 0 w' (by rw [h0] at hown' ⊢; exact hown') hbb
      rw [h0] at h2
      exact h2
    · obtain ⟨g3, cap3, hvv, _⟩ := owns_parts hown' hnil
      subst hvv
      exact h _ _ w' hown' hbb

theorem val_drop_le (ds : List Nat) (k : Nat) (h : k ≤ ds.length) : val (ds.drop k) ≤ val ds := by
  have h1 := val_take_drop ds k h
  have h2 : 1 * val (ds.drop k) ≤ 10000 ^ k * val (ds.drop k) := Nat.mul_le_mul_right _ (Nat.pow_pos (by omega))
  omega

theorem NV.zero (w : World) : NV w (.slice none 0 0) 0 := ⟨[], sl_empty w, fun d hd => by simp at hd, fun k h => by simp at h, rfl⟩

theorem top_cons {ds : List Nat} (h : Top ds) (hne : ds ≠ []) (x : Nat) : Top (x :: ds) := by
  intro k hk
  have hp : 0 < ds.length := List.length_pos_iff.2 hne
  obtain ⟨j, rfl⟩ : ∃ j, k = j + 1 := ⟨k - 1, by simp at hk; omega⟩
  have := h j (by simpa using hk)
  simpa using this

theorem nv_shift {w : World} {v : Value} {ss : List Nat} {S : Nat} (h : Sl w v (0 :: ss)) (hd : Dig ss) (ht : Top ss) (hne : ss ≠ []) (hS : val ss = S) : NV w v (10000 * S) :=
  ⟨0 :: ss, h, fun d hm => by rcases List.mem_cons.1 hm with rfl | h; · omega
                              · exact hd d h, top_cons ht hne 0, by simp [val, hS]⟩

theorem prod_step (m y S D : Nat) (hS : S = m * D) : 10000 * S + m * y = m * (y + 10000 * D) := by
  rw [hS, Nat.mul_add, Nat.add_comm, Nat.mul_left_comm]

set_option maxHeartbeats 4000000 in
set_option maxRecDepth 100000 in
theorem product_any (w : World) (u v : Value) (m n K : Nat) (hu : NV w u m) (hv : NV w v n) (hm : m < 10000 ^ K) (hn : n < 10000 ^ K) (hK : K ≤ 100000000) :
    Calls Tryz.prog 184 #[u, v] w fun e w' => ∃ x, e = .returned x ∧ NV w' x (m * n) ∧ Below w.heap.size w w' := by
  obtain ⟨i0, hi, hz0, hz1, hz2⟩ := info_parts Tryz.infoInt
  obtain ⟨es, hs', hd', ht', hnv⟩ := hv
  have hl' := top_len ht' (by rw [hnv]; exact hn)
  obtain ⟨ao', cap', rfl, hc'⟩ := hs'.shape
  have HM := hide hm
  have HN := hide hn
  have HNV := hide hnv
  clear hm hn ht' hnv
  go_enter Tryz.func184, Tryz.ntmps184
  go_wp2
  go_loopw [5, 6] (fun sv iv wr => ∃ (k S : Nat), k ≤ es.length ∧ iv = .int .i64 ((k : Int) - 1) ∧ NV wr sv S ∧ Hid (S = m * val (es.drop k)) ∧ Below w.heap.size w wr) (fun _ iv _ => (intOf iv + 1).toNat)
  case atStart => exact ⟨es.length, 0, Nat.le_refl _, rfl, NV.zero _, by rw [Hid, List.drop_of_length_le (Nat.le_refl _)]; simp [val], Below.refl _ _⟩
  case round =>
    obtain ⟨k, S, hk, rfl, hS, hSv, hbel⟩ := hrel
    obtain ⟨ss, hss, hsd, hst, hsv⟩ := hS
    obtain ⟨ap, kp, rfl, hsk⟩ := hss.shape
    have HSV := hide hsv
    clear hsv
    have hSle : Hid (S < 10000 ^ (K + K)) := by
      rw [Hid, hSv.out, Nat.pow_add]
      exact Nat.mul_lt_mul'' HM.out (Nat.lt_of_le_of_lt (val_drop_le es k hk) (by rw [HNV.out]; exact HN.out))
    have hsl := top_len hst (by rw [HSV.out]; exact hSle.out)
    cases k with
    | zero =>
      have hfin : S = m * n := by rw [hSv.out, List.drop_zero, HNV.out]
      have HF := hide hfin
      clear hfin
      go_wp2_with fail
      refine (trim_any _ _ ss hss (by omega)).mono ?_
      rintro e w3 ⟨⟨x, rfl, hx⟩, rfl⟩
      go_wp2
      go_ret
      exact ⟨x, rfl, nv_trim hx hsd (by rw [HSV.out, HF.out]), hbel⟩
    | succ k =>
      obtain ⟨b', off', rfl, hb', hrow'⟩ := hs'.row (by intro e; simp [e] at hk)
      have hck' := (hbel.cell (p := ⟨b', off' + k, none⟩) hb').trans (hrow' k (by omega))
      have hdk' := hd'.get k
      have hdrop := val_drop es k (by omega)
      have hdle := val_drop_le es k (by omega)
      have HST : Hid (10000 * S + m * es.getD k 0 = m * val (es.drop k)) := by rw [Hid, hdrop]; exact prod_step m _ S _ hSv.out
      have HB : Hid (m * val (es.drop k) < 10000 ^ (K + K)) := by
        rw [Hid, Nat.pow_add]
        exact Nat.mul_lt_mul'' HM.out (Nat.lt_of_le_of_lt hdle (by rw [HNV.out]; exact HN.out))
      have hu2 := hu.below hbel
      generalize es.getD k 0 = y at *
      clear hdrop hdle hSle hrow'
      by_cases hse : ss = []
      · subst hse
        have hS0 : S = 0 := by rw [← HSV.out]; rfl
        go_wp2_with (at_builtin; refine append_sl rfl _ _ rfl wr.heap.size (Nat.le_refl _) none 0 [] rfl (World.ownsRow_nil _ _ _ _) _ [] rfl hss (by simp) ?_)
        intro ap' kp' w4 hown4 hbb
        have hb4 := hbb wr.heap.size wr (Below.refl _ _) (Nat.le_refl _)
        have ht4 : NV w4 (.slice ap' ([] ++ []).length kp') (10000 * S) := ⟨[], sl_of_owns hown4, fun d hd => by simp at hd, fun k h => by simp at h, by rw [hS0]; rfl⟩
        clear hbb hown4
        have hck4 := (hb4.cell (p := ⟨b', off' + k, none⟩) (Nat.lt_of_lt_of_le hb' hbel.size)).trans hck'
        have hu4 := hu2.below hb4
        have hbel4 := hbel.trans (hb4.mono hbel.size)
        clear hb4 hck' hu2 hss
        go_wp2_with fail
        refine (times_any _ _ m y K hu4 hdk' HM.out (by omega)).mono ?_
        rintro e w5 ⟨xv, rfl, hxv, hb5⟩
        have ht5 := ht4.below hb5
        have hbel5 := hbel4.trans (hb5.mono hbel4.size)
        clear hb5 ht4 hbel4 hck4
        go_wp2_with fail
        refine (plus_any _ _ _ (10000 * S) (m * y) (K + K) ht5 hxv (by have h1 := HST.out; have h2 := HB.out; omega) (by have h1 := HST.out; have h2 := HB.out; omega) (by omega)).mono ?_
        rintro e w6 ⟨sv, rfl, hsv, hb6⟩
        have hbel6 := hbel5.trans (hb6.mono hbel5.size)
        clear hb6 ht5 hxv hbel5
        go_wp2
        go_roundw
        case rel => exact ⟨k, _, by omega, by go_num, hsv, HST, hbel6⟩
        case measure => simp [intOf]
      · have hsp : (0 : Int) < (ss.length : Int) := by have := List.length_pos_iff.2 hse; omega
        go_wp2_with (at_builtin; refine wpList_append_own _ rfl _ _ 35 rfl wr.heap.size 3 i0 (.int .i64 0) 1 8 Tryz.underlying35 hi hz0 hz1 hz2 rfl (by decide) (.slice none 0 0) 0 [] rfl (World.ownsRow_nil _ _ _ _) ⟨wr.heap.size, 0, none⟩ 1 1 [.int .i64 0] rfl rfl (cell_one_new _ _ _) ?c2 (by unfold maxLen; omega) (by omega) (by simp) ?_)
        case c2 => first | rfl | (intro u hu; simp at hu; subst hu; rfl)
        intro v3 w3 hown3 hgrow hnn
        obtain ⟨g3, cap3, hvv, _⟩ := owns_parts (ds := [0]) hown3 hnn
        subst hvv
        have hb3 : Below wr.heap.size wr w3 := ((Below.refl _ _).alloc (Nat.le_refl _) _).grown hgrow (by simp) (fun k h => by simp [Value.ownBlock] at h)
        have hss3 := hss.below hb3
        clear hgrow hnn
        go_wp2_with (at_builtin; refine append_sl rfl _ _ rfl wr.heap.size hb3.size (some ⟨g3, 0, none⟩) cap3 [0] rfl hown3 _ ss rfl hss3 (by simp; omega) ?_)
        intro ap' kp' w4 hown4 hbb
        have hb4 := hbb wr.heap.size wr hb3 (Nat.le_refl _)
        have ht4 := nv_shift (sl_of_owns hown4) hsd hst hse HSV.out
        clear hbb hown4 hown3 hb3 hss3
        have hck4 := (hb4.cell (p := ⟨b', off' + k, none⟩) (Nat.lt_of_lt_of_le hb' hbel.size)).trans hck'
        have hu4 := hu2.below hb4
        have hbel4 := hbel.trans (hb4.mono hbel.size)
        clear hb4 hck' hu2 hss
        go_wp2_with fail
        refine (times_any _ _ m y K hu4 hdk' HM.out (by omega)).mono ?_
        rintro e w5 ⟨xv, rfl, hxv, hb5⟩
        have ht5 := ht4.below hb5
        have hbel5 := hbel4.trans (hb5.mono hbel4.size)
        clear hb5 ht4 hbel4 hck4
        go_wp2_with fail
        refine (plus_any _ _ _ (10000 * S) (m * y) (K + K) ht5 hxv (by have h1 := HST.out; have h2 := HB.out; omega) (by have h1 := HST.out; have h2 := HB.out; omega) (by omega)).mono ?_
        rintro e w6 ⟨sv, rfl, hsv, hb6⟩
        have hbel6 := hbel5.trans (hb6.mono hbel5.size)
        clear hb6 ht5 hxv hbel5
        go_wp2
        go_roundw
        case rel => exact ⟨k, _, by omega, by go_num, hsv, HST, hbel6⟩
        case measure => simp [intOf]
end Go.Proofs.YtnhfdcfnojnofaaGreatDoor.T
