/-
  PLANESKEEP'S FIELD: for every four whole numbers the call returns true, and the numbers read behind it as before; the listed variables of Go's library lie as their text lays them.
-/
import Derived.Test.YtnhfdcfnojnofaaGreatDoorFie1Z8
import Derived.Test.YtnhfdcfnojnofaaGreatDoorFie1Z9
set_option linter.unusedSimpArgs false
set_option linter.unusedVariables false
namespace Go.Proofs.YtnhfdcfnojnofaaGreatDoor
open Go.ChangeShapes Go.WideShapes Go.ChangeAt Go.RowKit

set_option maxRecDepth 100000 in
theorem field_lifted (os : Os) (started : os.Started) (H : Type) (enc : TypeId × Value → H) :
    ReturnsInHanded {} Tryz.checked os 4 .any (fun w args => (Rows.fieldSpec.pre enc Tryz.prog Tryz.f4 Rows.fieldRow.domain false w args ∧ laidMetH Tryz.prog Rows.fieldRow.laid w) ∧ sizedMet enc Tryz.prog Tryz.f4 (OpenSpec.ofChange Rows.fieldSpec) false w args)
      (Rows.fieldSpec.post enc Tryz.prog Tryz.f4 false true false false) := by
  refine returnsIn_laid_shaped (C := Tryz.checked) (X := fun w _ => laidMetH Tryz.prog Rows.fieldRow.laid w) (fun _ _ _ hh h => h.of_heap hh) own started (by kernel_rfl) Tryz.func4
    (ChangeSpec.witness_shaped (enc := enc) (C := Tryz.checked) (os := os) (X := fun w _ => laidMetH Tryz.prog Rows.fieldRow.laid w) false (World.laidAll Tryz.prog os Rows.fieldRow.laid) #[.int .i64 0, .int .i64 0, .int .i64 0, .int .i64 0] 8 (World.laidAll_os _ _ _)
      (World.shaped_of_ZipB (by kernel_rfl) (by kernel_rfl)) (by kernel_rfl) (by kernel_rfl) (by kernel_rfl)
      (by rw [MakeChecks.laidMetH_plain _ _ _ (by kernel_rfl)]; exact laidMet_laidAll _ (by kernel_rfl) (by kernel_rfl))) ?_
  intro W base args ds gs before hval0 hW hcnd _ hL hsh _
  have hval : ∀ (j : Nat) t v, Tryz.f4.params[j]? = some t → args[j]? = some v → Value.okWide Tryz.prog W .any base t v := hval0
  have hW' := hW
  obtain ⟨p, q, hA0, hV, rfl, hfz, hnd⟩ := hW
  have hA : DataW.TrodAll enc Tryz.prog W 0 (fun _ => true) true Tryz.f4.params.toList args.toList ds p := hA0
  rw [Tryz.params4] at hA hval
  obtain ⟨v0, vs0, d0, ds0, p0, q0, hargs, rfl, rfl, h0, r0⟩ := trodAll_cons hA
  obtain ⟨v1, vs1, d1, ds1, p1, q1, rfl, rfl, rfl, h1, r1⟩ := trodAll_cons r0
  obtain ⟨v2, vs2, d2, ds2, p2, q2, rfl, rfl, rfl, h2, r2⟩ := trodAll_cons r1
  obtain ⟨v3, vs3, d3, ds3, p3, q3, rfl, rfl, rfl, h3, r3⟩ := trodAll_cons r2
  obtain ⟨rfl, rfl, rfl⟩ := trodAll_nil r3
  obtain rfl : args = #[v0, v1, v2, v3] := by cases args; simp_all
  obtain ⟨rfl, rfl⟩ := trodVars_none hV
  obtain ⟨a0, rfl, rfl, rfl, w0⟩ := open_int Tryz.underlying3 (hval 0 3 v0 rfl rfl) h0
  obtain ⟨a1, rfl, rfl, rfl, w1⟩ := open_int Tryz.underlying3 (hval 1 3 v1 rfl rfl) h1
  obtain ⟨a2, rfl, rfl, rfl, w2⟩ := open_int Tryz.underlying3 (hval 2 3 v2 rfl rfl) h2
  obtain ⟨a3, rfl, rfl, rfl, w3⟩ := open_int Tryz.underlying3 (hval 3 3 v3 rfl rfl) h3
  clear hA0 hval0
  simp only [List.append_nil] at hW'
  have b0 := wf_bd w0
  have b1 := wf_bd w1
  have b2 := wf_bd w2
  have b3 := wf_bd w3
  refine (field_any a0 a1 a2 a3 b0.1 b0.2 b1.1 b1.2 b2.1 b2.2 b3.1 b3.2 W (gl_of_laid hL hsh)).mono fun e W' ⟨he, hg⟩ => ?_
  subst he
  exact ⟨_, rfl, post_below (pa := []) (pv := []) hW' (fun _ _ _ => (trodAll_cons_mk (shut_bool Tryz.underlying4 _) trodAll_mk0)) (fun sp _ => (trodAll_cons_mk (shut_int Tryz.underlying3 w0) (trodAll_cons_mk (shut_int Tryz.underlying3 w1) (trodAll_cons_mk (shut_int Tryz.underlying3 w2) (trodAll_cons_mk (shut_int Tryz.underlying3 w3) trodAll_mk0))))) (fun _ _ => rfl) rfl hg⟩

set_option maxRecDepth 100000 in
theorem field_j0 : jf0 Tryz.prog 4 Tryz.f4 Rows.fieldSpec Rows.fieldRow = true := by kernel_rfl
set_option maxRecDepth 100000 in
theorem field_j3 : jf3 Tryz.prog 4 Tryz.f4 Rows.fieldSpec Rows.fieldRow = true := by kernel_rfl
set_option maxRecDepth 100000 in
theorem field_j4 : jf4 Tryz.prog 4 Tryz.f4 Rows.fieldSpec Rows.fieldRow = true := by kernel_rfl
set_option maxRecDepth 100000 in
theorem field_j5 : jf5 Tryz.prog 4 Tryz.f4 Rows.fieldSpec Rows.fieldRow = true := by kernel_rfl
set_option maxRecDepth 100000 in
theorem field_j7 : jf7 Tryz.prog 4 Tryz.f4 Rows.fieldSpec Rows.fieldRow = true := by kernel_rfl
set_option maxRecDepth 100000 in
theorem field_j9 : jf9 Tryz.prog 4 Tryz.f4 Rows.fieldSpec Rows.fieldRow = true := by kernel_rfl
set_option maxRecDepth 100000 in
theorem field_j10 : jf10 Tryz.prog 4 Tryz.f4 Rows.fieldSpec Rows.fieldRow = true := by kernel_rfl
set_option maxRecDepth 100000 in
theorem field_j11 : jf11 Tryz.prog 4 Tryz.f4 Rows.fieldSpec Rows.fieldRow = true := by kernel_rfl
set_option maxRecDepth 100000 in
theorem field_j12 : jf12 Tryz.prog 4 Tryz.f4 Rows.fieldSpec Rows.fieldRow = true := by kernel_rfl
set_option maxRecDepth 100000 in
theorem field_j13 : jf13 Tryz.prog 4 Tryz.f4 Rows.fieldSpec Rows.fieldRow = true := by kernel_rfl
set_option maxRecDepth 100000 in
theorem field_j14 : jf14 Tryz.prog 4 Tryz.f4 Rows.fieldSpec Rows.fieldRow = true := by kernel_rfl
set_option maxRecDepth 100000 in
theorem field_j15 : jf15 Tryz.prog 4 Tryz.f4 Rows.fieldSpec Rows.fieldRow = true := by kernel_rfl
set_option maxRecDepth 100000 in
theorem field_j16 : jf16 Tryz.prog 4 Tryz.f4 Rows.fieldSpec Rows.fieldRow = true := by kernel_rfl
set_option maxRecDepth 100000 in
theorem field_j17 : jf17 Tryz.prog 4 Tryz.f4 Rows.fieldSpec Rows.fieldRow = true := by kernel_rfl
set_option maxRecDepth 100000 in
theorem field_j18 : jf18 Tryz.prog 4 Tryz.f4 Rows.fieldSpec Rows.fieldRow = true := by kernel_rfl
set_option maxRecDepth 100000 in
theorem field_j19 : jf19 Tryz.prog 4 Tryz.f4 Rows.fieldSpec Rows.fieldRow = true := by kernel_rfl
set_option maxRecDepth 100000 in
theorem field_j20 : jf20 Tryz.prog 4 Tryz.f4 Rows.fieldSpec Rows.fieldRow = true := by kernel_rfl
set_option maxRecDepth 100000 in
theorem field_j21 : jf21 Tryz.prog 4 Tryz.f4 Rows.fieldSpec Rows.fieldRow = true := by kernel_rfl
set_option maxRecDepth 100000 in
theorem field_j22 : jf22 Tryz.prog 4 Tryz.f4 Rows.fieldSpec Rows.fieldRow = true := by kernel_rfl
set_option maxRecDepth 100000 in
theorem field_j23 : jf23 Tryz.prog 4 Tryz.f4 Rows.fieldSpec Rows.fieldRow = true := by kernel_rfl
set_option maxRecDepth 100000 in
theorem field_j26 : jf26 Tryz.prog 4 Tryz.f4 Rows.fieldSpec Rows.fieldRow = true := by kernel_rfl
set_option maxRecDepth 100000 in
theorem field_j27 : jf27 Tryz.prog 4 Tryz.f4 Rows.fieldSpec Rows.fieldRow = true := by kernel_rfl
set_option maxRecDepth 100000 in
theorem field_j28 : jf28 Tryz.prog 4 Tryz.f4 Rows.fieldSpec Rows.fieldRow = true := by kernel_rfl
set_option maxRecDepth 100000 in
theorem field_j29 : jf29 Tryz.prog 4 Tryz.f4 Rows.fieldSpec Rows.fieldRow = true := by kernel_rfl
set_option maxRecDepth 100000 in
theorem field_j30 : jf30 Tryz.prog 4 Tryz.f4 Rows.fieldSpec Rows.fieldRow = true := by kernel_rfl
set_option maxRecDepth 100000 in
theorem field_j31 : jf31 Tryz.prog 4 Tryz.f4 Rows.fieldSpec Rows.fieldRow = true := by kernel_rfl
set_option maxRecDepth 100000 in
theorem field_main : Tryz.prog.mainIs = some (Rows.fieldCard.stood.harness.1, Rows.fieldCard.stood.harness.2.toList) := by kernel_rfl
set_option maxRecDepth 100000 in
theorem field_goes : false = Rows.fieldRow.goesBy Tryz.prog := by kernel_rfl
set_option maxRecDepth 100000 in
theorem field_named : Tryz.prog.funcNamed Rows.fieldRow.func = some 4 := by kernel_rfl

set_option maxRecDepth 100000 in
theorem field_closed : joinedFacts Tryz.prog 4 Tryz.f4 Rows.fieldSpec Rows.fieldRow = true :=
  joined_of field_j0 (jp1 _ _ _ _) (jp2 _ _ _ _) field_j3 field_j4 field_j5 (jp6 _ _ _ _) field_j7 (jp8 _ _ _ _) field_j9 field_j10 field_j11 field_j12 field_j13 field_j14 field_j15 field_j16 field_j17 field_j18 field_j19 field_j20 field_j21 field_j22 field_j23 (jp24 _ _ _ _) (jp25 _ _ _ _) field_j26 field_j27 field_j28 field_j29 field_j30 field_j31

set_option maxRecDepth 100000 in
theorem field_row : Rows.FieldSaid :=
  OpenClaim.holds_of_wide 4 Tryz.f4 rfl rfl rfl rfl rfl rfl rfl ⟨rfl, rfl, rfl, rfl, rfl⟩ rfl rfl rfl rfl rfl field_named Tryz.func4 field_closed
    (of_decide_eq_true (by kernel_rfl)) (by unfold Func.isWrapper; first | (rw [if_pos (by decide +kernel)]; kernel_rfl) | (rw [if_neg (by decide +kernel)]; exact ⟨rfl, rfl⟩))
    (fun os started H enc _ => field_lifted os started H enc)

set_option maxRecDepth 100000 in
theorem field_card : Rows.FieldCardSaid :=
  Claim7.holds_tied_plain_at .later [] [.data, .data, .data, .data, .pinned] true Rows.fieldCard.stood.harness false field_row (fun _ h => by cases h) (by kernel_rfl) (fun _ h => by cases h) field_row_tie rfl ⟨rfl, rfl⟩ field_main rfl
    (fun f fn hf hfn => by
      obtain rfl : f = 4 := Option.some.inj (field_named.symm.trans hf) |>.symm
      obtain rfl : fn = Tryz.f4 := (Option.some.inj (Tryz.func4.symm.trans hfn)).symm
      exact ⟨jplooks, fun j t ht => by
        rw [Tryz.params4] at ht
        have hm : t ∈ [3, 3, 3, 3] := by simpa using Array.mem_of_getElem? ht
        have hall : ([3, 3, 3, 3].all fun u => !Tryz.prog.wantsStandIn u) = true := by kernel_rfl
        exact (show Tryz.prog.wantsStandIn t = false by simpa using List.all_eq_true.1 hall t hm)⟩)
    field_goes
#print axioms field_card
end Go.Proofs.YtnhfdcfnojnofaaGreatDoor
