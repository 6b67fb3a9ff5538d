/-
  What package fraction does: Minus.
-/
import Derived.Test.YtcmdglfjnepahaaGreatDoorFra7
set_option linter.unusedSimpArgs false
set_option linter.unusedVariables false
namespace Go.Proofs.YtcmdglfjnepahaaGreatDoor
open Go.RowKit

set_option maxRecDepth 100000 in
set_option maxHeartbeats 2000000 in
theorem fminus_any (K M : Nat) (hK : K + K + 1 ≤ 1073741822) (hM : M ≤ 1073741822) (hO : OverOK M) (w : World) (x y : Value) (p r : Int) (q s : Nat) (h : FracV w x p q) (k : FracV w y r s) (hp : p.natAbs < 4294967296 ^ K) (hr : r.natAbs < 4294967296 ^ K) (hq : q < 4294967296 ^ K) (hs : s < 4294967296 ^ K) (hZ : (p * s + (-r) * q).natAbs < 4294967296 ^ M) (hN : q * s < 4294967296 ^ M) :
    Calls Tryz.prog 69 #[x, y] w fun e w' => ∃ t, e = .returned t ∧ FracV w' t ((p * s + (-r) * q) / (Nat.gcd (p * s + (-r) * q).natAbs (q * s) : Int)) ((q * s) / Nat.gcd (p * s + (-r) * q).natAbs (q * s)) ∧ Below w.heap.size w w' := by
  have h0 := h
  have k0 := k
  obtain ⟨b, ao, l, cap, ao', l', cap', rfl, hv, hb, hu, hq0, hg⟩ := h.parts
  obtain ⟨c, bo, m, dap, bo', m', dap', rfl, hv', hb', hu', hq', hg'⟩ := k.parts
  have hH : Held w b c ao ao' bo bo' l cap l' cap' m dap m' dap' p r q s (((w.alloc (.cells #[.bool b, .slice ao l cap, .slice ao' l' cap'] 64)).alloc (.cells #[.bool c, .slice bo m dap, .slice bo' m' dap'] 64)).alloc (.cells #[.bool false, .slice none 0 0, .slice none 0 0] 64)) :=
    ⟨((Box3.new _ _ _ _ _).alloc _).alloc _, (Box3.new1 _ _ _ _ _ _).alloc _, Box3.new2 _ _ _ _ _ _ _, ((h0.alloc _).alloc _).alloc _, ((k0.alloc _).alloc _).alloc _, below3 w _ _ _, by simp⟩
  clear hv hb hu hg hv' hb' hu' hg'
  go_enter Tryz.func69, Tryz.ntmps69
  go_wp2
  go_region_held (fun w' => w'.cell? ⟨w.heap.size, 0, none⟩ = some (.bool b) ∧ w'.cell? ⟨w.heap.size, 1, none⟩ = some (.slice ao l cap) ∧ w'.cell? ⟨w.heap.size, 2, none⟩ = some (.slice ao' l' cap') ∧ w'.cell? ⟨w.heap.size + 1, 0, none⟩ = some (.bool c) ∧ w'.cell? ⟨w.heap.size + 1, 1, none⟩ = some (.slice bo m dap) ∧ w'.cell? ⟨w.heap.size + 1, 2, none⟩ = some (.slice bo' m' dap')) (first | (refine ⟨?_, ?_, ?_, ?_, ?_, ?_⟩ <;> (rw [far, far, far] <;> first | assumption | omega)) | go_keep) (first | (go_at_call 68; refine (fplus_any K M hK hM hO _ _ _ p (-r) q s hH2.2.2.2.1 hA1 hp (by rw [Int.natAbs_neg]; exact hr) hq hs hZ hN).mono ?_; rintro e wB ⟨tB, rfl, hB1, hbB1⟩; obtain ⟨b2, a2, l2, k2, a3, l3, k3, rfl, hp1, hp2, hp3, hp4, hp5⟩ := hB1.parts; have hH3 := hH2.below hbB1; have hP3 := hH3.1; obtain ⟨s0, s1, s2, s3, s4, s5, s6⟩ := hP3; have hQ3 := hH3.2.1; obtain ⟨t0, t1, t2, t3, t4, t5, t6⟩ := hQ3; have hR3 := hH3.2.2.1; obtain ⟨c0, c1, c2, f0, f1, f2, g0⟩ := hR3) | (go_at_call 119; refine (fturned_any _ _ r s (by exact hH.drew.2.2.2.2.1)).mono ?_; rintro e wA ⟨tA, rfl, hA1, hbA1⟩; have hH2 := hH.drew.below hbA1; have hP2 := hH2.1; obtain ⟨o0, o1, o2, o3, o4, o5, o6⟩ := hP2; have hQ2 := hH2.2.1; obtain ⟨q0, q1, q2, q3, q4, q5, q6⟩ := hQ2))
  have hbB := hH3.2.2.2.2.2.1
  go_wp2
  exact bodyPost_ret (v := .agg #[.bool b2, .slice a2 l2 k2, .slice a3 l3 k3]) (by simp [results, Tryz.results69, go_sem, c0, c1, c2]) rfl ⟨_, rfl, fracV_boxed hp1 hp2 hp3 hp4 hp5 c0 c1 c2,
    ((hbB.setCell (by simp; omega) _).setCell (by simp; omega) _).setCell (by simp; omega) _⟩
end Go.Proofs.YtcmdglfjnepahaaGreatDoor
