/-
  What package fraction does: across, Turned, Floor.
-/
import Derived.Test.YtcmdglfjnepahaaGreatDoorFra2
set_option linter.unusedSimpArgs false
set_option linter.unusedVariables false
namespace Go.Proofs.YtcmdglfjnepahaaGreatDoor
open Go.RowKit

theorem Box2.new2 (w : World) (A B : Obj) (x y : Value) (t : TypeId) : Box2 (((w.alloc A).alloc B).alloc (.cells #[x, y] t)) (w.heap.size + 1 + 1) x y := by
  have := Box2.new ((w.alloc A).alloc B) x y t; simpa using this

theorem below_drew {B : Nat} {w w' : World} (h : Below B w.drew w') : Below B w w' := ⟨h.os, h.tape, h.output, h.size, h.block⟩

set_option maxRecDepth 100000 in
set_option maxHeartbeats 1000000 in
theorem across_any (w : World) (x y : Value) (p r : Int) (q s J K : Nat) (hJK : J + K ≤ 1073741823) (h : FracV w x p q) (k : FracV w y r s) (hp : p.natAbs < 4294967296 ^ J) (hs : s < 4294967296 ^ K) :
    Calls Tryz.prog 115 #[x, y] w fun e w' => ∃ t, e = .returned t ∧ WholeV w' t (p * (s : Int)) ∧ Below w.heap.size w w' := by
  have h0 := h
  have k0 := k
  obtain ⟨b, ao, l, cap, ao', l', cap', rfl, hv, hb, hu, hq, hg⟩ := h.parts
  obtain ⟨c, bo, m, dap, bo', m', dap', rfl, hv', hb', hu', hq', hg'⟩ := k.parts
  have hboxP : Box3 (((w.alloc (.cells #[.bool b, .slice ao l cap, .slice ao' l' cap'] 64)).alloc (.cells #[.bool c, .slice bo m dap, .slice bo' m' dap'] 64)).alloc (.cells #[.bool false, .slice none 0 0] 62)) w.heap.size (.bool b) (.slice ao l cap) (.slice ao' l' cap') := ((Box3.new _ _ _ _ _).alloc _).alloc _
  have hboxQ : Box3 (((w.alloc (.cells #[.bool b, .slice ao l cap, .slice ao' l' cap'] 64)).alloc (.cells #[.bool c, .slice bo m dap, .slice bo' m' dap'] 64)).alloc (.cells #[.bool false, .slice none 0 0] 62)) (w.heap.size + 1) (.bool c) (.slice bo m dap) (.slice bo' m' dap') := (Box3.new1 _ _ _ _ _ _).alloc _
  have hboxR : Box2 (((w.alloc (.cells #[.bool b, .slice ao l cap, .slice ao' l' cap'] 64)).alloc (.cells #[.bool c, .slice bo m dap, .slice bo' m' dap'] 64)).alloc (.cells #[.bool false, .slice none 0 0] 62)) (w.heap.size + 1 + 1) (.bool false) (.slice none 0 0) := Box2.new2 _ _ _ _ _ _
  have hbW := below3 w (.cells #[.bool b, .slice ao l cap, .slice ao' l' cap'] 64) (.cells #[.bool c, .slice bo m dap, .slice bo' m' dap'] 64) (.cells #[.bool false, .slice none 0 0] 62)
  by_cases h1 : s = 1
  · subst h1
    rw [Int.natCast_one, Int.mul_one]
    go_enter Tryz.func115, Tryz.ntmps115
    go_wp2_with fail
    refine (isWhole_yes _ _ r (((k0.alloc _).alloc _).alloc _)).mono ?_
    rintro e w1 ⟨rfl, hb1⟩
    have hv1 := (((hv.alloc _).alloc _).alloc _).below hb1
    have hboxP1 := hboxP.below hb1
    have hboxR1 := hboxR.below hb1
    obtain ⟨p0, p1, p2, p3, p4, p5, p6⟩ := hboxP1
    obtain ⟨c0, c1, f0, f1, g0⟩ := hboxR1
    have hbA : Below w.heap.size w w1 := hbW.trans (hb1.mono hbW.size)
    clear hb1 hboxP hboxQ hboxR
    go_wp2
    exact bodyPost_ret (v := .agg #[.bool b, .slice ao l cap]) (by simp [results, Tryz.results115, go_sem, c0, c1]) rfl ⟨_, rfl, wholeV_boxed hv1 hb c0 c1,
      (hbA.setCell (by simp; omega) _).setCell (by simp; omega) _⟩
  · go_enter Tryz.func115, Tryz.ntmps115
    go_wp2_with fail
    refine (isWhole_no _ _ r s (((k0.alloc _).alloc _).alloc _) h1).mono ?_
    rintro e w1 ⟨rfl, hb1⟩
    rw [(lowN_ne hq' h1).1] at hu'
    have hx1 : WholeV w1 (.agg #[.bool b, .slice ao l cap]) p := ⟨b, _, rfl, (((hv.alloc _).alloc _).alloc _).below hb1, hb⟩
    have hu1 := (((hu'.alloc _).alloc _).alloc _).below hb1
    have hboxP1 := hboxP.below hb1
    have hboxQ1 := hboxQ.below hb1
    have hboxR1 := hboxR.below hb1
    have hbA : Below w.heap.size w w1 := hbW.trans (hb1.mono hbW.size)
    clear hb1 hboxP hboxQ hboxR hv hu hv' hu' h0 k0 hbW
    have hboxP2 := hboxP1
    obtain ⟨p0, p1, p2, p3, p4, p5, p6⟩ := hboxP2
    have hboxQ2 := hboxQ1
    obtain ⟨q0, q1, q2, q3, q4, q5, q6⟩ := hboxQ2
    go_wp2
    go_region_held (fun w' => w'.cell? ⟨w.heap.size, 0, none⟩ = some (.bool b) ∧ w'.cell? ⟨w.heap.size, 1, none⟩ = some (.slice ao l cap) ∧ w'.cell? ⟨w.heap.size + 1, 2, none⟩ = some (.slice bo' m' dap')) (first | (refine ⟨?_, ?_, ?_⟩ <;> (rw [far, far] <;> first | assumption | omega)) | go_keep) (first | (go_at_call 156; refine (ofNatural_any _ _ s (by exact NatV.drew hu1)).mono ?_; rintro e wA ⟨ov, rfl, ho, hbo⟩; have hboxP3 := hboxP1.drew.below hbo; obtain ⟨r0, r1, r2, r3, r4, r5, r6⟩ := hboxP3; have hboxQ3 := hboxQ1.drew.below hbo; obtain ⟨t0, t1, t2, t3, t4, t5, t6⟩ := hboxQ3) | (go_at_call 120; refine (wtimes_any _ _ _ p (s : Int) J K hJK (by exact (hx1.drewN 1).below hbo) ho hp (by simpa using hs)).mono ?_; rintro e wB ⟨yv, rfl, hy, hby⟩; obtain ⟨b2, a2, l2, k2, rfl, hv2, hb2⟩ := hy.parts; have hboxP4 := (hboxP1.drew.below hbo).below hby; obtain ⟨u0, u1, u2, u3, u4, u5, u6⟩ := hboxP4; have hboxQ4 := (hboxQ1.drew.below hbo).below hby; obtain ⟨v0, v1, v2, v3, v4, v5, v6⟩ := hboxQ4; have hboxR4 := (hboxR1.drew.below hbo).below hby; obtain ⟨c0, c1, f0, f1, g0⟩ := hboxR4))
    have hbB : Below w.heap.size w wA := hbA.trans ((below_drew hbo).mono hbA.size)
    have hbC : Below w.heap.size w wB := hbB.trans (hby.mono hbB.size)
    go_wp2
    exact bodyPost_ret (v := .agg #[.bool b2, .slice a2 l2 k2]) (by simp [results, Tryz.results115, go_sem, c0, c1]) rfl ⟨_, rfl, wholeV_boxed hv2 hb2 c0 c1,
      (hbC.setCell (by simp; omega) _).setCell (by simp; omega) _⟩
end Go.Proofs.YtcmdglfjnepahaaGreatDoor
