/-
  Numbers written: pieces.
-/
import Derived.Test.YtcmdglfjnepahaaGreatDoorTxt6
set_option linter.unusedSimpArgs false
set_option linter.unusedVariables false
namespace Go.Proofs.YtcmdglfjnepahaaGreatDoor
open Go.RowKit

/-- The number that pieces of nine decimal digits are, the least first. -/
def pval : List Nat → Nat
  | [] => 0
  | d :: ds => d + 1000000000 * pval ds

theorem pval_append (a b : List Nat) : pval (a ++ b) = pval a + 1000000000 ^ a.length * pval b := by
  induction a with
  | nil => simp [pval]
  | cons d ds ih =>
    simp only [List.cons_append, pval, List.length_cons, ih, Nat.pow_succ, Nat.mul_add]
    rw [Nat.mul_comm (1000000000 ^ ds.length) 1000000000, Nat.mul_assoc]
    omega

theorem pow9_len {L K n : Nat} (h1 : 1000000000 ^ L ≤ n) (h2 : n < 4294967296 ^ K) : L < K * 2 := by
  rcases Nat.lt_or_ge L (K * 2) with h | h
  · exact h
  · exfalso
    have e1 : 1000000000 ^ (K * 2) ≤ 1000000000 ^ L := Nat.pow_le_pow_right (by omega) h
    have e2 : (1000000000 : Nat) ^ (K * 2) = (1000000000 ^ 2) ^ K := by rw [Nat.mul_comm, Nat.pow_mul]
    have e3 : (4294967296 : Nat) ^ K ≤ (1000000000 ^ 2) ^ K := Nat.pow_le_pow_left (by decide) K
    omega

set_option maxHeartbeats 2000000 in
set_option maxRecDepth 100000 in
theorem pieces_any (w : World) (v : Value) (n K : Nat) (hv : NatV w v n) (hn0 : n ≠ 0) (hn : n < 4294967296 ^ K) (hK : K ≤ 100000000) :
    Calls Tryz.prog 87 #[v] w fun e w' => ∃ x ps, e = .returned x ∧ U32s w' x ps ∧ (∀ p ∈ ps, p < 1000000000) ∧ pval ps = n ∧ (∀ k, ps.length = k + 1 → ps.getD k 0 ≠ 0) ∧ ps.length ≤ K * 2 ∧ Below w.heap.size w w' := by
  obtain ⟨ds, hu, hd, ht, hvd, hl⟩ := natV_u32 hv hn
  obtain ⟨i0, hi, hz0, hz1, hz2⟩ := info_parts Tryz.info131
  have hds : ds ≠ [] := fun e => hn0 (by rw [← hvd, e]; rfl)
  go_enter Tryz.func87, Tryz.ntmps87
  go_wp2_with fail
  refine (clone_any _ _ ds hu (by omega)).mono ?_
  rintro e w1 ⟨x, rfl, ⟨ao, cap, rfl, hc, hr⟩, hbel⟩
  obtain ⟨g, rfl, hg, hgl, hrow, hfr⟩ := hr hds
  clear hr
  go_wp2
  go_loopg [3, 4] n (fun k pv lv wr => ∃ (ds' ps : List Nat) (ap : Option Addr) (kp : Nat), pv = .slice ap ps.length kp ∧ lv = .slice (some ⟨g, 0, none⟩) ds'.length cap ∧ ds'.length ≤ ds.length ∧ Row wr g 0 ds' ∧ Free wr g 0 ds.length ∧ Dig ds' ∧ Top ds' ∧ Hid (val ds' = k) ∧ g < wr.heap.size ∧ w1.heap.size ≤ wr.heap.size ∧ wr.ownsRow w1.heap.size 131 1 (.slice ap ps.length kp) ps.length (ps.map encD) ∧
      (∀ p ∈ ps, p < 1000000000) ∧ Hid (pval ps + 1000000000 ^ ps.length * k = n) ∧ Hid (k = 0 → ∀ j, ps.length = j + 1 → ps.getD j 0 ≠ 0) ∧ ps.length ≤ K * 2 ∧ Hid (ps ≠ [] ∨ k = n) ∧ Below w.heap.size w wr)
  case atStart => exact ⟨ds, [], none, 0, rfl, rfl, Nat.le_refl _, hrow, hfr, hd, ht, hvd, hgl, Nat.le_refl _, World.ownsRow_nil _ _ _ _, fun p hp => by simp at hp, by simp [Hid, pval], fun h => absurd h hn0, Nat.zero_le _, Or.inr rfl, hbel⟩
  case round =>
    obtain ⟨ds', ps, ap, kp, rfl, rfl, hdl, hrow', hfr', hd', ht', hv', hgl', hsz', hown, hps, hpv, hlast, hpl, hne, hbel'⟩ := hrel
    by_cases hk0 : gk = 0
    · have hds0 : ds' = [] := ht'.zero.1 (by rw [hv'.out]; exact hk0)
      subst hds0
      have HK := hide hk0
      clear hk0
      go_wp2
      go_ret
      have hpv2 := hpv.out
      rw [HK.out, Nat.mul_zero, Nat.add_zero] at hpv2
      have hpne : ps ≠ [] := by
        rcases hne.out with h | h
        · exact h
        · exact absurd (HK.out.symm.trans h).symm hn0
      refine ⟨_, ps, rfl, ?_, hps, hpv2, hlast.out HK.out, hpl, hbel'⟩
      have hvn : Value.slice ap ps.length kp ≠ .slice none 0 0 := by
        intro e
        simp only [Value.slice.injEq] at e
        exact hpne (List.length_eq_zero_iff.1 e.2.1)
      obtain ⟨g2, cap2, hvv, hn2, _, hg2, hrow2, _⟩ := owns_parts hown hvn
      simp only [Value.slice.injEq] at hvv
      obtain ⟨rfl, _, rfl⟩ := hvv
      exact ⟨_, _, rfl, hn2, fun _ => ⟨g2, 0, rfl, hg2, hrow2⟩⟩
    · have hv2 := hv'.out
      have hds0 : ds' ≠ [] := fun e => hk0 (by rw [← hv2, e]; rfl)
      have hdp : 0 < ds'.length := List.length_pos_iff.2 hds0
      have hpl2 : ps.length < K * 2 := by
        refine pow9_len (n := n) ?_ hn
        have h1 := hpv.out
        have h2 : 1000000000 ^ ps.length * 1 ≤ 1000000000 ^ ps.length * gk := Nat.mul_le_mul_left _ (Nat.pos_of_ne_zero hk0)
        omega
      go_wp2_with fail
      refine (shortDivide_any _ g 0 cap 1000000000 ds' (by omega) (by omega) (by omega) (by omega) hrow' (fun i hi => hfr' i (by omega)) hd').mono ?_
      rintro e w2 ⟨ds2, r, rfl, hr2, hl2, hdg2, hrow2, hup2, hval2⟩
      have hown2 : w2.ownsRow w1.heap.size 131 1 (.slice ap ps.length kp) ps.length (ps.map encD) := by
        refine hown.kept (row := some g) ⟨hup2.os, hup2.tape, hup2.output, Nat.le_of_eq hup2.size.symm, fun k _ hne => hup2.block k (fun e => hne (by rw [e]))⟩ ?_
        right
        intro e
        have := hown.lt g e
        omega
      have hfr2 := hup2.free hfr'
      have hb2 : Below w.heap.size w w2 := hbel'.trans (hup2.below hg)
      have HS2 := hide (show w2.heap.size = wr.heap.size from hup2.size)
      clear hown hrow' hup2 hfr' hbel'
      go_wp2_with (at_builtin; refine wpList_append_own _ rfl _ _ 59 rfl w1.heap.size 131 i0 (.int .u32 0) 1 4 Tryz.underlying59 hi hz0 hz1 hz2 rfl (by decide) (.slice ap ps.length kp) ps.length (ps.map encD) rfl (hown2.alloc _) ⟨w2.heap.size, 0, none⟩ 1 1 [encD r] rfl rfl ?c1 ?c2 (by unfold maxLen; omega) (by omega) (by have := HS2.out; simp; omega) ?_)
      case c1 => exact cell_one_new _ _ _
      case c2 => intro u hu; simp at hu; subst hu; rfl
      intro v3 w3 hown3 hgrow hnn
      have hv3 : v3 ≠ .slice none 0 0 := fun e => hnn e
      have e2 : ps.map encD ++ [encD r] = (ps ++ [r]).map encD := by simp
      rw [e2] at hown3
      obtain ⟨g3, cap3, hvv, hn3, hg3, hgl3, _, _⟩ := owns_parts hown3 hv3
      subst hvv
      have hs2 := HS2.out
      have hgne : some g ≠ Value.ownBlock (.slice ap ps.length kp) := by
        intro e
        have := hown2.lt g e.symm
        omega
      have hblk : w3.heap[g]? = w2.heap[g]? := by
        rw [hgrow.block g (by simp; omega) hgne]
        exact Below.heap_alloc _ _ _ (by omega)
      have hrow3 : Row w3 g 0 ds2 := fun i hi => (World.cell?_of_block (w := w2) hblk).trans (hrow2 i hi)
      have hfr3 : Free w3 g 0 ds.length := fun i hi => (World.frozen?_of_block (w := w2) hblk).trans (hfr2 i hi)
      have hb3 : Below w.heap.size w w3 := (hb2.alloc hb2.size _).grown hgrow (by have := hb2.size; simp; omega) (fun k h => by have := hown2.lt k h; have := hbel.size; omega)
      have hsz3 := hgrow.size
      have hsz3' : w2.heap.size < w3.heap.size := by simp at hsz3; omega
      have hgl3' : g < w3.heap.size := by omega
      have hszz : w1.heap.size ≤ w3.heap.size := by omega
      have hlen3 : (ps ++ [r]).length = ps.length + 1 := by simp
      have hkd : gk / 1000000000 = val ds2 := by rw [← hv2, hval2, Nat.mul_add_div (by omega), Nat.div_eq_of_lt hr2, Nat.add_zero]
      have hkm : gk % 1000000000 = r := by rw [← hv2, hval2, Nat.mul_add_mod, Nat.mod_eq_of_lt hr2]
      have HKD := hide hkd
      have HKM := hide hkm
      clear hgrow hnn hown2 hrow2 hfr2 hb2 hs2 hsz3 hkd hkm hv2 hgne hblk
      go_wp2_with fail
      refine (trim_any w3 g 0 cap ds'.length ds2 (by omega) (by omega) (by omega) hrow3).mono ?_
      rintro e w4 ⟨rfl, rfl⟩
      have htl := trimL_le ds2 ds'.length
      have hlt4 : (ds2.take (trimL ds2 ds'.length)).length = trimL ds2 ds'.length := by rw [List.length_take]; omega
      have HLT4 := hide hlt4
      clear hlt4
      go_wp2
      go_roundg (gk / 1000000000)
      case measure => exact Nat.div_lt_self (Nat.pos_of_ne_zero hk0) (by omega)
      case rel =>
        rw [← hlen3] at hown3
        refine ⟨ds2.take (trimL ds2 ds'.length), ps ++ [r], _, cap3, by rw [hlen3], by rw [HLT4.out], by rw [HLT4.out]; omega, hrow3.take _, hfr3, hdg2.take _, top_trimL _ _ (by omega), ?_, hgl3', hszz, hown3, ?_, ?_, ?_, by omega, Or.inl (by simp), hb3⟩
        · rw [Hid, val_trimL _ _ (by omega), List.take_of_length_le (by omega), HKD.out]
        · intro p hp
          rcases List.mem_append.1 hp with h | h
          · exact hps p h
          · simp at h; omega
        · have h1 := hpv.out
          have h2 := Nat.div_add_mod gk 1000000000
          rw [Hid, pval_append, hlen3, Nat.pow_succ]
          simp only [pval, Nat.mul_zero, Nat.add_zero]
          rw [Nat.mul_assoc, ← HKM.out, Nat.add_assoc, ← Nat.mul_add, Nat.mod_add_div]
          exact h1
        · intro hz j hj
          have hjj : j = ps.length := by rw [hlen3] at hj; omega
          subst hjj
          have h2 := Nat.div_add_mod gk 1000000000
          rw [hz] at h2
          have h3 : r = gk := by rw [← HKM.out]; omega
          simp
          omega
end Go.Proofs.YtcmdglfjnepahaaGreatDoor
