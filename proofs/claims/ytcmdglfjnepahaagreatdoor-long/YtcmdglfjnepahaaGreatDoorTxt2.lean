/-
  Decimal digits read: timesPieceBase.
-/
import Derived.Test.YtcmdglfjnepahaaGreatDoorTxt1
set_option linter.unusedSimpArgs false
set_option linter.unusedVariables false
namespace Go.Proofs.YtcmdglfjnepahaaGreatDoor
open Go.RowKit

theorem encD_set (ds : List Nat) (i x : Nat) : (ds.set i x).map encD = (ds.map encD).set i (encD x) := by rw [List.map_set]

theorem piece_step {cur ds : List Nat} {k c m : Nat} (hk : k < cur.length) (hi : val (cur.take k) + 4294967296 ^ k * c = val (ds.take k) * 1000000000 + m) :
    val ((cur.set k ((c + ds.getD k 0 * 1000000000) % 4294967296)).take (k + 1)) + 4294967296 ^ (k + 1) * ((c + ds.getD k 0 * 1000000000) / 4294967296) = val (ds.take (k + 1)) * 1000000000 + m := by
  rw [val_lay cur k _ hk, val_take_any ds k, Nat.mul_add, Nat.add_mul, Nat.mul_assoc]
  omega

/-- A number at least that power has its highest digit not nought. -/
theorem top_of_ge {ds : List Nat} (hd : Dig ds) (h : ∀ k, ds.length = k + 1 → 4294967296 ^ k ≤ val ds) : Top ds := by
  intro k hk h0
  have h1 := h k hk
  have e := take_snoc_getD ds k (by omega)
  rw [List.take_of_length_le (by omega)] at e
  rw [e, val_append, h0] at h1
  have h2 := val_lt (hd.take k)
  rw [List.length_take, Nat.min_eq_left (by omega)] at h2
  simp [val] at h1
  omega

theorem top_snoc {ds : List Nat} {c : Nat} (hc : c ≠ 0) : Top (ds ++ [c]) := by
  intro k hk
  have : ds.length = k := by simpa using hk
  subst this
  simpa using hc

set_option maxRecDepth 100000 in
set_option maxHeartbeats 1000000 in
theorem timesPiece_any (w : World) (B g cap m : Nat) (ds : List Nat) (hown : w.ownsRow B 131 1 (.slice (some ⟨g, 0, none⟩) ds.length cap) ds.length (ds.map encD)) (hB : B ≤ w.heap.size) (hlen : ds.length ≤ 1073741823) (hm : m < 1000000000) (hd : Dig ds) (ht : Top ds) :
    Calls Tryz.prog 80 #[.slice (some ⟨g, 0, none⟩) ds.length cap, .int .u32 (m : Nat)] w fun e w' =>
      ∃ g' cap' ds', e = .returned (.slice (some ⟨g', 0, none⟩) ds'.length cap') ∧ w'.ownsRow B 131 1 (.slice (some ⟨g', 0, none⟩) ds'.length cap') ds'.length (ds'.map encD) ∧ Dig ds' ∧ val ds' = val ds * 1000000000 + m ∧ ds'.length ≤ ds.length + 1 ∧ Below B w w' ∧ Top ds' := by
  have hgB := (lt_of_owns hown).1
  obtain ⟨i0, hi, hz0, hz1, hz2⟩ := info_parts Tryz.info131
  go_enter Tryz.func80, Tryz.ntmps80
  go_wp2
  go_loopw [5, 11] (fun cv iv wr => ∃ (k c : Nat) (cur : List Nat), k ≤ ds.length ∧ c < 4294967296 ∧ iv = .int .i64 (k : Nat) ∧ cv = .int .u64 (c : Nat) ∧ Hid (cur.length = ds.length) ∧ Dig cur ∧ wr.ownsRow B 131 1 (.slice (some ⟨g, 0, none⟩) ds.length cap) ds.length (cur.map encD) ∧ Below B w wr ∧
      Hid (cur.drop k = ds.drop k) ∧ Hid (val (cur.take k) + 4294967296 ^ k * c = val (ds.take k) * 1000000000 + m)) (fun _ iv _ => ds.length - (intOf iv).toNat)
  case atStart => exact ⟨0, m, ds, Nat.zero_le _, by omega, rfl, rfl, rfl, hd, hown, Below.refl _ _, rfl, by simp [Hid, val]⟩
  case round =>
    obtain ⟨k, c, cur, hk, hc, rfl, rfl, hcl, hcd, hco, hbel, hdr, hval⟩ := hrel
    by_cases hlt : k < ds.length
    · have hkc : k < cur.length := by rw [hcl.out]; exact hlt
      have hx := row_of_owns hco hcl.out k hkc
      rw [getD_of_drop hdr.out, Nat.zero_add] at hx
      have hxl := hd.get k
      have hfz : wr.frozen? ⟨g, k, none⟩ = false := hco.frozenAt k
      have hst := (hco.stored k (encD ((c + ds.getD k 0 * 1000000000) % 4294967296))).1
      rw [← encD_set] at hst
      have HS := hide (piece_step (m := m) hkc hval.out)
      generalize ds.getD k 0 = x at *
      have e1 : encD ((c + x * 1000000000) % 4294967296) = .int .u32 (((c : Int) + x * 1000000000) % 4294967296) := by unfold encD; exact congrArg _ (by omega)
      rw [e1] at hst
      have E2 := hide (show (((c + x * 1000000000) / 4294967296 : Nat) : Int) = ((c : Int) + x * 1000000000) / 4294967296 by omega)
      have HB2 := hide (show (c + x * 1000000000) / 4294967296 < 4294967296 by omega)
      clear hval e1 hi hz0 hz1 hz2
      go_wp2
      go_roundw
      case rel => exact ⟨k + 1, (c + x * 1000000000) / 4294967296, _, by omega, HB2.out, by go_num, by rw [E2.out], by rw [Hid, List.length_set, hcl.out], hcd.set _ _ (Nat.mod_lt _ (by decide)), hst, hbel.setCell (by exact hgB) _, by rw [Hid, drop_set_succ]; exact drop_tail hdr.out, HS.out⟩
      case measure => simp [intOf]; omega
    · have hkd : k = ds.length := by omega
      have hv2 := hval.out
      rw [hkd, List.take_of_length_le (by rw [hcl.out]; omega), List.take_of_length_le (Nat.le_refl ds.length)] at hv2
      by_cases hc0 : c = 0
      · subst hc0
        have HV := hide hv2
        clear hval hv2 hkd
        have htop : Top cur := by
          refine top_of_ge hcd (fun j hj => ?_)
          have h1 := ht.le j (by rw [← hcl.out]; exact hj)
          have h2 := HV.out
          omega
        have HT := hide htop
        clear htop
        go_wp2
        go_ret
        have hcl2 := hcl.out
        rw [← hcl2] at hco
        exact ⟨g, cap, cur, ret_slice hcl2.symm, hco, hcd, by have := HV.out; omega, by omega, hbel, HT.out⟩
      · have hcp : 0 < (c : Int) := by omega
        have HV := hide hv2
        have hbs := hbel.size
        clear hval hv2 hkd
        go_wp2_with (at_builtin; refine wpList_append_own _ rfl _ _ 60 rfl B 131 i0 (.int .u32 0) 1 4 Tryz.underlying60 hi hz0 hz1 hz2 rfl (by decide) (.slice (some ⟨g, 0, none⟩) ds.length cap) ds.length (cur.map encD) rfl (hco.alloc _) ⟨wr.heap.size, 0, none⟩ 1 1 [encD c] rfl rfl ?c1 ?c2 (by unfold maxLen; omega) (by omega) (by simp; omega) ?_)
        case c1 => exact cell_one_new _ _ _
        case c2 => intro u hu; simp at hu; subst hu; rfl
        intro v1 w1 hown1 hgrow hnn
        have hv1 : v1 ≠ .slice none 0 0 := fun e => hnn e
        have e2 : cur.map encD ++ [encD c] = (cur ++ [c]).map encD := by simp
        rw [e2] at hown1
        obtain ⟨g', cap', hvv, _, _, _, _, _⟩ := owns_parts hown1 hv1
        subst hvv
        have hbel1 : Below B w w1 := (hbel.alloc (by omega) _).grown hgrow (by simp; omega) (fun k h => by simp [Value.ownBlock] at h; omega)
        have hl2 : (cur ++ [c]).length = ds.length + 1 := by have := hcl.out; simp; omega
        clear hgrow hnn hco
        go_wp2
        go_ret
        rw [← hl2] at hown1
        refine ⟨g', cap', cur ++ [c], ret_slice hl2.symm, hown1, hcd.append (by intro d hd; simp at hd; omega), ?_, by omega, hbel1, top_snoc hc0⟩
        have h1 := HV.out
        have h3 := hcl.out
        rw [val_append, h3]
        simp [val]
        exact h1
end Go.Proofs.YtcmdglfjnepahaaGreatDoor
