/-
  What longDivide of package natural does.
-/
import Derived.Test.YtcmdglfjnepahaaGreatDoorNat14
import Derived.Test.YtcmdglfjnepahaaGreatDoorNat10
import Derived.Test.YtcmdglfjnepahaaGreatDoorNum4
import Derived.Test.YtcmdglfjnepahaaGreatDoorShelf
set_option linter.unusedSimpArgs false
set_option linter.unusedVariables false
namespace Go.Proofs.YtcmdglfjnepahaaGreatDoor
open Go.RowKit

theorem Row.keep {w w' : World} {b o off n : Nat} {ds : List Nat} (h : Row w b o ds) (hu : Upd b off n w w') (hd : o + ds.length ≤ off ∨ off + n ≤ o) : Row w' b o ds :=
  fun i hi => (hu.cell (o + i) (by omega)).trans (h i hi)

theorem Row.splice {w w' : World} {b off j : Nat} {L W : List Nat} (h : Row w b off L) (hu : Upd b (off + j) W.length w w') (hW : Row w' b (off + j) W) (hj : j + W.length ≤ L.length) : Row w' b off (splice L W j) := by
  have h1 : Row w' b off (L.take j) := (h.take j).keep hu (Or.inl (by simp; omega))
  have hl : (L.take j).length = j := by simp; omega
  refine h1.append ?_
  rw [hl]
  refine hW.append ?_
  have h2 := (h.drop (j + W.length)).keep hu (Or.inr (by omega))
  rw [show off + j + W.length = off + (j + W.length) by omega]
  exact h2

/-- What may have changed: two blocks' cells. -/
structure Two (b c : Nat) (w w' : World) : Prop where
  os : w'.os = w.os
  tape : w'.tape = w.tape
  output : w'.output = w.output
  size : w'.heap.size = w.heap.size
  block : ∀ k, k ≠ b → k ≠ c → w'.heap[k]? = w.heap[k]?
  frozen : ∀ k j, w'.frozen? ⟨k, j, none⟩ = w.frozen? ⟨k, j, none⟩

theorem Two.refl (b c : Nat) (w : World) : Two b c w w := ⟨rfl, rfl, rfl, rfl, fun _ _ _ => rfl, fun _ _ => rfl⟩
theorem Two.trans {b c : Nat} {u v w : World} (h : Two b c u v) (k : Two b c v w) : Two b c u w :=
  ⟨k.os.trans h.os, k.tape.trans h.tape, k.output.trans h.output, k.size.trans h.size, fun i h1 h2 => (k.block i h1 h2).trans (h.block i h1 h2), fun i j => (k.frozen i j).trans (h.frozen i j)⟩
theorem Upd.frozenAll {b off n : Nat} {w w' : World} (h : Upd b off n w w') (k j : Nat) : w'.frozen? ⟨k, j, none⟩ = w.frozen? ⟨k, j, none⟩ := by
  by_cases hk : k = b
  · subst hk; exact h.frozen j
  · exact World.frozen?_of_block (w := w) (h.block k hk)
theorem Upd.two {b off n : Nat} {w w' : World} (h : Upd b off n w w') (c : Nat) : Two b c w w' := ⟨h.os, h.tape, h.output, h.size, fun k h1 _ => h.block k h1, h.frozenAll⟩
theorem Upd.two' {b off n : Nat} {w w' : World} (h : Upd b off n w w') (c : Nat) : Two c b w w' := ⟨h.os, h.tape, h.output, h.size, fun k _ h1 => h.block k h1, h.frozenAll⟩
theorem Two.drewN {b c : Nat} {u w : World} (h : Two b c u w) (n : Nat) : Two b c u (w.drewN n) := ⟨h.os, h.tape, h.output, h.size, h.block, h.frozen⟩
theorem Two.row {b c k o : Nat} {w w' : World} {ds : List Nat} (h : Two b c w w') (hb : k ≠ b) (hc : k ≠ c) (hr : Row w k o ds) : Row w' k o ds :=
  fun i hi => (World.cell?_of_block (w := w) (h.block k hb hc)).trans (hr i hi)
theorem Two.free {b c k o n : Nat} {w w' : World} (h : Two b c w w') (hf : Free w k o n) : Free w' k o n := fun i hi => (h.frozen _ _).trans (hf i hi)
theorem Two.below {b c B : Nat} {w w' : World} (h : Two b c w w') (hb : B ≤ b) (hc : B ≤ c) : Below B w w' := ⟨h.os, h.tape, h.output, Nat.le_of_eq h.size.symm, fun k hk => h.block k (by omega) (by omega)⟩

set_option maxRecDepth 100000 in
set_option maxHeartbeats 2000000 in
theorem longOK_any (K : Nat) (hK : K ≤ 1073741800) : LongOK K := by
  intro w u v m n hu hv hm hnm hm2 hn1
  obtain ⟨ds, hu1, hd, ht, hvu, hl⟩ := natV_u32 hu hm
  obtain ⟨es, hv1, hd', ht', hvv, hl'⟩ := natV_u32 hv (Nat.lt_of_le_of_lt hnm hm)
  have hlt1 : 1 < es.length := Top.ge hd' (by rw [hvv]; simpa using hn1)
  obtain ⟨t, hes⟩ : ∃ t, es.length = t + 2 := ⟨es.length - 2, by omega⟩
  have hdm : es.length ≤ ds.length := by
    rcases Nat.lt_or_ge ds.length es.length with h | h
    · have := ht'.lt_of_len hd h; omega
    · exact h
  have hdne : ds ≠ [] := by intro e; rw [e, hes] at hdm; simp at hdm
  have hene : es ≠ [] := by intro e; rw [e] at hes; simp at hes
  have hx0 : es.getD (t + 1) 0 ≠ 0 := ht' (t + 1) hes
  have hxl := hd'.get (t + 1)
  obtain ⟨s, hs, hsb, hs1, hs2⟩ := lead_shift (Nat.pos_of_ne_zero hx0) hxl
  obtain ⟨hb1, hb2⟩ := by_bd hd' hes hs1 hs2
  have hS0 : 0 < 2 ^ s := Nat.pow_pos (by decide)
  have hS1 : 2 ^ s ≤ 2147483648 := Nat.pow_le_pow_right (n := 2) (by decide) hs
  rw [hvv] at hb1 hb2
  have hv2 := hv1
  have hu2 := hu1
  obtain ⟨ao', cap', rfl, hc', hr'⟩ := hv1
  obtain ⟨b', off', rfl, hbb', hrow'⟩ := hr' hene
  obtain ⟨ao, cap, rfl, hc, hr⟩ := hu1
  have hcell := hrow' (t + 1) (by omega)
  have hm' : m < 4294967296 ^ ds.length := by rw [← hvu]; exact val_lt hd
  obtain ⟨M, hM⟩ : ∃ M, ds.length = M := ⟨_, rfl⟩
  rw [hes] at hdm hlt1 hl' hv2 hc' ⊢
  rw [hM] at hdm hl hu2 hc hm' ⊢
  generalize hxx : es.getD (t + 1) 0 = x at *
  have hlz := fun W => Tryz.bits_LeadingZeros32 (x : Int) W (by omega) (by omega)
  rw [Int.toNat_natCast, hsb] at hlz
  have HB1 := hide hb1
  have HB2 := hide hb2
  have HM2 := hide hm'
  clear hr hr' hb1 hb2 hx0 hs1 hs2 hsb hm hnm hm2 hn1 ht ht' hm'
  go_enter Tryz.func140, Tryz.ntmps140
  go_wp2_with fail
  refine (hlz _).mono ?_
  rintro e w0 ⟨rfl, rfl⟩
  go_wp2_with fail
  refine (shiftUp_any _ _ ds s hs hu2 hdne hd (by omega)).mono ?_
  rintro e w1 ⟨gL, L0, rfl, hLl, hLd, hLr, hLf, hLv, hb1, hgL0, hgL1⟩
  rw [hM] at hLl hLf
  rw [hM]
  go_wp2_with fail
  refine (shiftUp_any _ _ es s hs (hv2.below hb1) hene hd' (by omega)).mono ?_
  rintro e w2 ⟨gB, E0, rfl, hEl, hEd, hEr, hEf, hEv, hb2, hgB0, hgB1⟩
  rw [hes] at hEl hEf
  rw [hes]
  go_wp2_with fail
  refine (trim_any _ _ _ _ _ E0 (by omega) (by omega) (by omega) hEr).mono ?_
  rintro e w3 ⟨rfl, rfl⟩
  have hFd := hEd.take (trimL E0 (t + 2 + 1))
  have hFt := top_trimL E0 (t + 2 + 1) (by omega)
  have hFv := val_trimL E0 (t + 2 + 1) (by omega)
  rw [List.take_of_length_le (show E0.length ≤ t + 2 + 1 by omega), hEv, hvv] at hFv
  have hFr := hEr.take (trimL E0 (t + 2 + 1))
  obtain ⟨hFl, hFlead⟩ := by_digits hFd hFt hFv HB1.out HB2.out
  have htl : trimL E0 (t + 2 + 1) = t + 2 := by
    have := trimL_le E0 (t + 2 + 1)
    rw [List.length_take] at hFl; omega
  rw [htl] at hFd hFt hFv hFr hFl hFlead
  rw [htl]
  obtain ⟨F, hF⟩ : ∃ F, E0.take (t + 2) = F := ⟨_, rfl⟩
  rw [hF] at hFd hFt hFv hFr hFl hFlead
  clear hF htl hEd hEr hEf hEv hEl hFt
  have hinit := left_start hLl (by omega) (hvu ▸ hLv) HM2.out hS0 hS1 HB1.out
  obtain ⟨i0, hi, hz0, hz1, hz2⟩ := info_parts Tryz.info131
  obtain ⟨k0, hk0⟩ : ∃ k0, M - (t + 2) + 1 = k0 := ⟨_, rfl⟩
  have hHI := hide hinit
  clear hinit
  go_wp2_with (at_make; refine make_u32 _ rfl _ _ 60 rfl 131 i0 Tryz.underlying60 hi hz0 hz1 hz2 _ _ _ _ k0 rfl rfl (by omega) (by omega) (by omega) ?_; intro w4 hQr hQf hb4 hsz4)
  have hgB : gB ≠ w3.heap.size := by omega
  have hgL : gL ≠ w3.heap.size := by have := hb2.size; omega
  have hLB : gB ≠ gL := by omega
  have hLr4 : Row w4 gL 0 L0 := (hLr.below hb2 hgL1).below hb4 (Nat.lt_of_lt_of_le hgL1 hb2.size)
  have hFr4 : Row w4 gB 0 F := hFr.below hb4 hgB1
  have hLf4 : Free w4 gL 0 (M + 1) := fun i hi => (hb4.frozen (p := ⟨gL, 0 + i, none⟩) (Nat.lt_of_lt_of_le hgL1 hb2.size)).trans ((hb2.frozen (p := ⟨gL, 0 + i, none⟩) hgL1).trans (hLf i hi))
  have hbW : Below w0.heap.size w0 w4 := hb1.trans ((hb2.trans (hb4.mono hb2.size)).mono hb1.size)
  have hgQ1 : w0.heap.size ≤ w3.heap.size := Nat.le_trans hb1.size hb2.size
  have hgB2 : gB < w4.heap.size := by omega
  obtain ⟨gQ, hgQ⟩ : ∃ gQ, w3.heap.size = gQ := ⟨_, rfl⟩
  rw [hgQ] at hQr hQf hsz4 hgB hgL hgQ1
  rw [hgQ]
  clear hi hz0 hz1 hz2 hv hv2 hbb' hrow' hu hu2 hcell hLr hFr hLf hb1 hb2 hb4 hlz hxx hd' hd hes hdne hene hgL1 hgB0 hgB1
  obtain ⟨V, hV⟩ : ∃ V, 2 ^ s * n = V := ⟨_, rfl⟩
  have HV := hide hV
  rw [hV] at hFv HB1 HB2 hHI
  clear hV
  have hVt : V < 4294967296 ^ (t + 2) := HB2.out
  have HFV := hide hFv
  clear hFv
  have HVT := hide hVt
  clear hVt
  go_loopw [9] (fun iv wr => ∃ (k : Nat) (L Q : List Nat), k ≤ k0 ∧ iv = .int .i64 ((k : Int) - 1) ∧ Hid (L.length = M + 1) ∧ Dig L ∧ Row wr gL 0 L ∧ Hid (Q.length = k0) ∧ Dig Q ∧ Row wr gQ 0 Q ∧ Two gL gQ w4 wr ∧
      Hid (val L0 = val L + V * (4294967296 ^ k * val (Q.drop k))) ∧ Hid (val (L.drop k) < V)) (fun iv _ => (intOf iv + 1).toNat)
  case atStart => exact ⟨k0, L0, List.replicate k0 0, Nat.le_refl _, rfl, hLl, hLd, hLr4, by simp [Hid], (fun d hd => by rw [List.eq_of_mem_replicate hd]; decide), hQr, Two.refl _ _ _, by rw [Hid, List.drop_of_length_le (by simp)]; simp [val], by rw [Hid, show k0 = M - t - 1 by omega]; exact hHI.out⟩
  case round =>
    obtain ⟨k, L, Q, hk, rfl, hll, hld, hlr, hql, hqd, hqr, htwo, hinv, hless⟩ := hrel
    cases k with
    | zero =>
      have hvL0 : val L0 = 2 ^ s * m := by rw [hLv, hvu]
      obtain ⟨hq1, hr1⟩ := left_end (S := 2 ^ s) (m := m) (n := n) (r := val L) (q := val Q) hS0 (by
        have := hinv.out; rw [hvL0, List.drop_zero, Nat.pow_zero, Nat.one_mul, ← HV.out] at this; exact this) (by have := hless.out; rw [List.drop_zero, ← HV.out] at this; exact this)
      have HQ1 := hide hq1
      have HR1 := hide hr1
      have hqf : Free wr gQ 0 k0 := htwo.free hQf
      have hlf : Free wr gL 0 (M + 1) := htwo.free hLf4
      have hsd := shiftDown_any wr gL 0 (M + 1) s L hs (by rw [hll.out]; omega) (by rw [hll.out]; omega) hlr (by rw [hll.out]; exact hlf) hld
      rw [hll.out] at hsd
      have hgQs : gQ < wr.heap.size := by rw [htwo.size]; exact hsz4
      clear hq1 hr1 hinv hless hvL0
      go_wp2_with fail
      refine (trim_any _ gQ 0 k0 k0 Q (Nat.le_refl _) (by omega) (by rw [hql.out]; omega) hqr).mono ?_
      rintro e w5 ⟨rfl, rfl⟩
      go_wp2_with fail
      refine hsd.mono ?_
      rintro e w6 ⟨rfl, L', hl1, hl2, hl3, hl4, hl5⟩
      go_wp2_with fail
      refine (trim_any _ gL 0 (M + 1) (M + 1) L' (Nat.le_refl _) (by omega) (by omega) hl3).mono ?_
      rintro e w7 ⟨rfl, rfl⟩
      go_wp2_with fail
      go_ret2
      have hqr6 := hl4.other (fun e => hgL e.symm) hqr
      refine ⟨_, _, rfl, ?_, ?_, ?_⟩
      · rw [← HQ1.out]; exact natV_trim hqr6 hqd (by rw [hl4.size]; exact hgQs) hql.out (Nat.le_refl _)
      · rw [← HR1.out, ← hl5]; exact natV_trim hl3 hl2 (block_of_row hl3 (by intro e; rw [e] at hl1; simp at hl1)) hl1 (Nat.le_refl _)
      · exact hbW.trans ((htwo.below hgL0 hgQ1).trans (hl4.below hgL0))
    | succ j =>
      have hjl : j + (t + 2) + 1 ≤ L.length := by rw [hll.out]; omega
      obtain ⟨hw1, hw2, hw3⟩ := window_val hld hjl hless.out HVT.out
      obtain ⟨Wd, hWd0⟩ : ∃ Wd, (L.drop j).take (t + 2 + 1) = Wd := ⟨_, rfl⟩
      have hWl : Wd.length = t + 3 := by rw [← hWd0, List.length_take, List.length_drop]; omega
      have hWr : Row wr gL j Wd := by have := (hlr.drop j).take (t + 2 + 1); rw [hWd0, Nat.zero_add] at this; exact this
      have hWd : Dig Wd := by rw [← hWd0]; exact (hld.drop j).take _
      rw [hWd0] at hw1
      have hFrw : Row wr gB 0 F := htwo.row hLB hgB hFr4
      have hX := top_le hWl hFl hFd hw1 HFV.out hw3
      have hlf : Free wr gL 0 (M + 1) := htwo.free hLf4
      have hWf : Free wr gL j (t + 3) := fun i hi => by have := hlf (j + i) (by omega); rwa [Nat.zero_add] at this
      have hgd := guessDigit_any wr gL j (M + 1 - j) gB 0 (t + 2 + 1) t Wd F hWl hFl (by omega) (by omega) (by omega) hWr hFrw hWd hFd hFlead hX _ _ _ _ rfl rfl rfl rfl
      have hgBs : gB < wr.heap.size := by rw [htwo.size]; exact hgB2
      have hqf : Free wr gQ 0 k0 := htwo.free hQf
      have hqc : wr.cell? ⟨gQ, j, none⟩ = some (.int .u32 ((Q.getD j 0 : Nat) : Int)) := by have := hqr j (by rw [hql.out]; omega); rwa [Nat.zero_add] at this
      have hqz : wr.frozen? ⟨gQ, j, none⟩ = false := by have := hqf j (by omega); rwa [Nat.zero_add] at this
      have hjk : j < k0 := by omega
      have hW1 := hide hw1
      have hW2 := hide hw2
      have hW3 := hide hw3
      have HWD0 := hide hWd0
      clear hw1 hw2 hw3 hX hWd0
      go_wp2_with fail
      rw [show j + (t + 2) + 1 - j = t + 3 by omega]
      refine hgd.mono ?_
      rintro e w5 ⟨g, rfl, hg1, hg2, hg3, nq, rfl⟩
      obtain ⟨hga, hgb⟩ := guess_good hWl hFl hWd hFd hW1.out HFV.out hFlead hW3.out rfl rfl rfl rfl hg2 hg1 hg3
      have htk := takeTimes_any (wr.drewN nq) gL j (M + 1 - j) g Wd F (.slice (some ⟨gB, 0, none⟩) (t + 2) (t + 2 + 1)) (by omega) (by omega) (by omega) hg1 hWr (by rw [hWl]; exact hWf) hWd
        ⟨_, t + 2 + 1, by rw [hFl], by omega, fun _ => ⟨gB, 0, rfl, hgBs, hLB, hFrw⟩⟩ hFd
      rw [hWl] at htk
      clear hg2 hg3 hgd
      go_wp2_with fail
      refine htk.mono ?_
      rintro e w6 ⟨W1, r, rfl, hr, hW1l, hW1d, hW1r, hup1, hv1⟩
      rw [hW1.out, HFV.out] at hv1
      have hV0 : 0 < V := by
        have := HB1.out; have := pow_pos (t + 1); generalize 4294967296 ^ (t + 1) = P at *; omega
      have hW1b := val_lt hW1d
      rw [hW1l] at hW1b
      have hub : val (L.drop j) < 4294967296 ^ (t + 3) := by
        have := val_lt hWd; rw [hW1.out, hWl] at this; exact this
      have hVb : V < 4294967296 ^ (t + 3) := Nat.lt_of_lt_of_le HVT.out (pow_mono (by omega))
      have htwo6 : Two gL gQ w4 w6 := (htwo.drewN nq).trans (hup1.two gQ)
      have hLr6 : Row w6 gL 0 (splice L W1 j) := Row.splice (w := wr.drewN nq) hlr (by rw [Nat.zero_add, hW1l]; exact hup1) (by rw [Nat.zero_add]; exact hW1r) (by rw [hW1l]; omega)
      have hqr6 : Row w6 gQ 0 Q := hup1.other (fun e => hgL e.symm) hqr
      have hFr6 : Row w6 gB 0 F := htwo6.row hLB hgB hFr4
      have hqc6 : w6.cell? ⟨gQ, j, none⟩ = some (.int .u32 ((Q.getD j 0 : Nat) : Int)) := by have := hqr6 j (by rw [hql.out]; omega); rwa [Nat.zero_add] at this
      have hqz6 : w6.frozen? ⟨gQ, j, none⟩ = false := (hup1.frozenAll gQ j).trans hqz
      have hcj : j < Q.length := by rw [hql.out]; exact hjk
      by_cases hgq : g ≤ val (L.drop j) / V
      · obtain ⟨rfl, hq1, hq2⟩ := win_right hV0 hga hgq hW1b hv1 hub
        obtain ⟨s1, s2⟩ := long_step hjl (by omega) hcj (by rw [HWD0.out]; exact hW1.out) hW2.out hq1 hinv.out
        have hset := hqr6.setCell j g hcj
        have hupq := (Upd.refl gQ 0 k0 w6).setCell j hjk (.int .u32 (g : Int))
        simp only [Nat.zero_add] at hset hupq
        have hLr7 := hupq.other hgL hLr6
        have htwo7 := htwo6.trans (hupq.two' gL)
        have S1 := hide s1
        have S2 : Hid (val ((splice L W1 j).drop j) < V) := by rw [Hid, s2]; exact hq2
        clear s1 s2 hq1 hq2 hv1 hub hVb hga hgb hgq hinv hless hW1b
        go_wp2_with fail
        go_roundw
        case rel => exact ⟨j, splice L W1 j, Q.set j g, by omega, by go_num, by rw [Hid, splice_len (by rw [hW1l]; omega), hll.out], splice_dig hld hW1d, hLr7, by rw [Hid, List.length_set, hql.out], hqd.set _ _ hg1, hset, htwo7, S1, S2⟩
        case measure => simp [intOf]
      · have hgq1 : g = val (L.drop j) / V + 1 := by omega
        obtain ⟨hr0, hg0, hwin⟩ := win_wrong (b := 0) (c := 0) hV0 hgq1 hW1b hv1 hub hVb
        have hr0i : (0 : Int) < (r : Int) := by omega
        have had := addInto_any w6 gL j (M + 1 - j) W1 F (.slice (some ⟨gB, 0, none⟩) (t + 2) (t + 2 + 1)) (by omega) (by omega) (by omega) hW1r (by rw [hW1l]; exact fun i hi => (hup1.frozenAll gL (j + i)).trans (hWf i hi)) hW1d
          ⟨_, t + 2 + 1, by rw [hFl], by omega, fun _ => ⟨gB, 0, rfl, by rw [hup1.size]; exact hgBs, hLB, hFr6⟩⟩ hFd
        rw [hW1l] at had
        have HV1 := hide hv1
        have HGQ := hide hgq1
        have HUB := hide hub
        have HVB := hide hVb
        have HWB := hide hW1b
        clear hwin hv1 hgq1 hub hVb hW1b hga hgb hgq
        go_wp2_with fail
        refine had.mono ?_
        rintro e w7 ⟨rfl, W2, c, hW2l, hW2d, hW2r, hup2, hv2⟩
        rw [HFV.out] at hv2
        have hW2b := val_lt hW2d
        rw [hW2l] at hW2b
        obtain ⟨_, _, hwin⟩ := win_wrong (b := val W2) (c := c) hV0 HGQ.out HWB.out HV1.out HUB.out HVB.out
        obtain ⟨hq1, hq2⟩ := hwin hW2b hv2
        have htwo7 : Two gL gQ w4 w7 := htwo6.trans (hup2.two gQ)
        have hup12 : Upd gL j (t + 3) (wr.drewN nq) w7 := hup1.trans hup2
        have hLr7 : Row w7 gL 0 (splice L W2 j) := Row.splice (w := wr.drewN nq) hlr (by rw [Nat.zero_add, hW2l]; exact hup12) (by rw [Nat.zero_add]; exact hW2r) (by rw [hW2l]; omega)
        have hqr7 : Row w7 gQ 0 Q := hup2.other (fun e => hgL e.symm) hqr6
        have hqc7 : w7.cell? ⟨gQ, j, none⟩ = some (.int .u32 ((Q.getD j 0 : Nat) : Int)) := by have := hqr7 j (by rw [hql.out]; omega); rwa [Nat.zero_add] at this
        have hqz7 : w7.frozen? ⟨gQ, j, none⟩ = false := (hup2.frozenAll gQ j).trans hqz6
        obtain ⟨s1, s2⟩ := long_step (q := g - 1) hjl (by omega) hcj (by rw [HWD0.out]; exact hW1.out) hW2.out hq1 hinv.out
        have hset := hqr7.setCell j (g - 1) hcj
        have hupq := (Upd.refl gQ 0 k0 w7).setCell j hjk (.int .u32 ((g - 1 : Nat) : Int))
        rw [show ((g - 1 : Nat) : Int) = (g : Int) - 1 by omega] at hset hupq
        simp only [Nat.zero_add] at hset hupq
        have hLr8 := hupq.other hgL hLr7
        have htwo8 := htwo7.trans (hupq.two' gL)
        have S1 := hide s1
        have S2 : Hid (val ((splice L W2 j).drop j) < V) := by rw [Hid, s2]; exact hq2
        clear s1 s2 hq1 hq2 hv2 hW2b hwin hinv hless HV1 HGQ HUB HVB HWB
        go_wp2_with fail
        go_roundw
        case rel => exact ⟨j, splice L W2 j, Q.set j (g - 1), by omega, by go_num, by rw [Hid, splice_len (by rw [hW2l]; omega), hll.out], splice_dig hld hW2d, hLr8, by rw [Hid, List.length_set, hql.out], hqd.set _ _ (by omega), hset, htwo8, S1, S2⟩
        case measure => simp [intOf]
end Go.Proofs.YtcmdglfjnepahaaGreatDoor
