/-
  PLANESKEEP'S LONG: for every three texts, either sign and every whole number the call returns true, and the arguments read behind it as before; the listed variables of Go's library lie as their text lays them.
-/
import Derived.Test.YtnhfdcfnojnofaaGreatDoorLon1Z8
import Derived.Test.YtnhfdcfnojnofaaGreatDoorLon1Z10
import Derived.ChangeMaps5
set_option linter.unusedSimpArgs false
set_option linter.unusedVariables false
namespace Go.Proofs.YtnhfdcfnojnofaaGreatDoor
open Go.ChangeShapes Go.WideShapes Go.ChangeAt Go.RowKit
open Go.ChangeMaps (open_string shut_string)

set_option maxRecDepth 100000 in
theorem long_lifted (os : Os) (started : os.Started) (H : Type) (enc : TypeId × Value → H) :
    ReturnsInHanded {} Tryz.checked os 5 .any (fun w args => (Rows.longSpec.pre enc Tryz.prog Tryz.f5 Rows.longRow.domain false w args ∧ laidMetH Tryz.prog Rows.longRow.laid w) ∧ sizedMet enc Tryz.prog Tryz.f5 (OpenSpec.ofChange Rows.longSpec) false w args)
      (Rows.longSpec.post enc Tryz.prog Tryz.f5 false true false false) := by
  refine returnsIn_laid_shaped (C := Tryz.checked) (X := fun w _ => laidMetH Tryz.prog Rows.longRow.laid w) (fun _ _ _ hh h => h.of_heap hh) own started (by kernel_rfl) Tryz.func5
    (ChangeSpec.witness_shaped (enc := enc) (C := Tryz.checked) (os := os) (X := fun w _ => laidMetH Tryz.prog Rows.longRow.laid w) false (World.laidAll Tryz.prog os Rows.longRow.laid) #[.string ⟨#[]⟩, .string ⟨#[]⟩, .string ⟨#[]⟩, .bool false, .int .i64 0] 8 (World.laidAll_os _ _ _)
      (World.shaped_of_ZipB (by kernel_rfl) (by kernel_rfl)) (by kernel_rfl) (by kernel_rfl) (by kernel_rfl)
      (by rw [MakeChecks.laidMetH_plain _ _ _ (by kernel_rfl)]; exact laidMet_laidAll _ (by kernel_rfl) (by kernel_rfl))) ?_
  intro W base args ds gs before hval0 hW hcnd _ hL hsh _
  have hval : ∀ (j : Nat) t v, Tryz.f5.params[j]? = some t → args[j]? = some v → Value.okWide Tryz.prog W .any base t v := hval0
  have hW' := hW
  obtain ⟨p, q, hA0, hV, rfl, hfz, hnd⟩ := hW
  have hA : DataW.TrodAll enc Tryz.prog W 0 (fun _ => true) true Tryz.f5.params.toList args.toList ds p := hA0
  rw [Tryz.params5] at hA hval
  obtain ⟨v0, vs0, d0, ds0, p0, q0, hargs, rfl, rfl, h0, r0⟩ := trodAll_cons hA
  obtain ⟨v1, vs1, d1, ds1, p1, q1, rfl, rfl, rfl, h1, r1⟩ := trodAll_cons r0
  obtain ⟨v2, vs2, d2, ds2, p2, q2, rfl, rfl, rfl, h2, r2⟩ := trodAll_cons r1
  obtain ⟨v3, vs3, d3, ds3, p3, q3, rfl, rfl, rfl, h3, r3⟩ := trodAll_cons r2
  obtain ⟨v4, vs4, d4, ds4, p4, q4, rfl, rfl, rfl, h4, r4⟩ := trodAll_cons r3
  obtain ⟨rfl, rfl, rfl⟩ := trodAll_nil r4
  obtain rfl : args = #[v0, v1, v2, v3, v4] := by cases args; simp_all
  obtain ⟨rfl, rfl⟩ := trodVars_none hV
  obtain ⟨s0, rfl, rfl, rfl, z0⟩ := open_string Tryz.underlying9 (hval 0 9 v0 rfl rfl) h0
  obtain ⟨s1, rfl, rfl, rfl, z1⟩ := open_string Tryz.underlying9 (hval 1 9 v1 rfl rfl) h1
  obtain ⟨s2, rfl, rfl, rfl, z2⟩ := open_string Tryz.underlying9 (hval 2 9 v2 rfl rfl) h2
  obtain ⟨b3, rfl, rfl, rfl⟩ := open_bool Tryz.underlying4 (hval 3 4 v3 rfl rfl) h3
  obtain ⟨a4, rfl, rfl, rfl, w4⟩ := open_int Tryz.underlying3 (hval 4 3 v4 rfl rfl) h4
  clear hA0 hval0
  simp only [List.append_nil] at hW'
  have bd := wf_bd w4
  refine (long_any s0 s1 s2 b3 a4 (by unfold maxLen at z0; omega) (by unfold maxLen at z1; omega) (by unfold maxLen at z2; omega) bd.1 bd.2 W (gl_of_laid hL hsh)).mono fun e W' ⟨he, hg⟩ => ?_
  subst he
  exact ⟨_, rfl, post_below (pa := []) (pv := []) hW' (fun _ _ _ => (trodAll_cons_mk (shut_bool Tryz.underlying4 _) trodAll_mk0)) (fun sp _ => (trodAll_cons_mk (shut_string Tryz.underlying9 z0) (trodAll_cons_mk (shut_string Tryz.underlying9 z1) (trodAll_cons_mk (shut_string Tryz.underlying9 z2) (trodAll_cons_mk (shut_bool Tryz.underlying4 _) (trodAll_cons_mk (shut_int Tryz.underlying3 w4) trodAll_mk0)))))) (fun _ _ => rfl) rfl hg⟩

set_option maxRecDepth 100000 in
theorem long_j0 : jf0 Tryz.prog 5 Tryz.f5 Rows.longSpec Rows.longRow = true := by kernel_rfl
set_option maxRecDepth 100000 in
theorem long_j3 : jf3 Tryz.prog 5 Tryz.f5 Rows.longSpec Rows.longRow = true := by kernel_rfl
set_option maxRecDepth 100000 in
theorem long_j4 : jf4 Tryz.prog 5 Tryz.f5 Rows.longSpec Rows.longRow = true := by kernel_rfl
set_option maxRecDepth 100000 in
theorem long_j5 : jf5 Tryz.prog 5 Tryz.f5 Rows.longSpec Rows.longRow = true := by kernel_rfl
set_option maxRecDepth 100000 in
theorem long_j7 : jf7 Tryz.prog 5 Tryz.f5 Rows.longSpec Rows.longRow = true := by kernel_rfl
set_option maxRecDepth 100000 in
theorem long_j9 : jf9 Tryz.prog 5 Tryz.f5 Rows.longSpec Rows.longRow = true := by kernel_rfl
set_option maxRecDepth 100000 in
theorem long_j10 : jf10 Tryz.prog 5 Tryz.f5 Rows.longSpec Rows.longRow = true := by kernel_rfl
set_option maxRecDepth 100000 in
theorem long_j11 : jf11 Tryz.prog 5 Tryz.f5 Rows.longSpec Rows.longRow = true := by kernel_rfl
set_option maxRecDepth 100000 in
theorem long_j12 : jf12 Tryz.prog 5 Tryz.f5 Rows.longSpec Rows.longRow = true := by kernel_rfl
set_option maxRecDepth 100000 in
theorem long_j13 : jf13 Tryz.prog 5 Tryz.f5 Rows.longSpec Rows.longRow = true := by kernel_rfl
set_option maxRecDepth 100000 in
theorem long_j14 : jf14 Tryz.prog 5 Tryz.f5 Rows.longSpec Rows.longRow = true := by kernel_rfl
set_option maxRecDepth 100000 in
theorem long_j15 : jf15 Tryz.prog 5 Tryz.f5 Rows.longSpec Rows.longRow = true := by kernel_rfl
set_option maxRecDepth 100000 in
theorem long_j16 : jf16 Tryz.prog 5 Tryz.f5 Rows.longSpec Rows.longRow = true := by kernel_rfl
set_option maxRecDepth 100000 in
theorem long_j17 : jf17 Tryz.prog 5 Tryz.f5 Rows.longSpec Rows.longRow = true := by kernel_rfl
set_option maxRecDepth 100000 in
theorem long_j18 : jf18 Tryz.prog 5 Tryz.f5 Rows.longSpec Rows.longRow = true := by kernel_rfl
set_option maxRecDepth 100000 in
theorem long_j19 : jf19 Tryz.prog 5 Tryz.f5 Rows.longSpec Rows.longRow = true := by kernel_rfl
set_option maxRecDepth 100000 in
theorem long_j20 : jf20 Tryz.prog 5 Tryz.f5 Rows.longSpec Rows.longRow = true := by kernel_rfl
set_option maxRecDepth 100000 in
theorem long_j21 : jf21 Tryz.prog 5 Tryz.f5 Rows.longSpec Rows.longRow = true := by kernel_rfl
set_option maxRecDepth 100000 in
theorem long_j22 : jf22 Tryz.prog 5 Tryz.f5 Rows.longSpec Rows.longRow = true := by kernel_rfl
set_option maxRecDepth 100000 in
theorem long_j23 : jf23 Tryz.prog 5 Tryz.f5 Rows.longSpec Rows.longRow = true := by kernel_rfl
set_option maxRecDepth 100000 in
theorem long_j26 : jf26 Tryz.prog 5 Tryz.f5 Rows.longSpec Rows.longRow = true := by kernel_rfl
set_option maxRecDepth 100000 in
theorem long_j27 : jf27 Tryz.prog 5 Tryz.f5 Rows.longSpec Rows.longRow = true := by kernel_rfl
set_option maxRecDepth 100000 in
theorem long_j28 : jf28 Tryz.prog 5 Tryz.f5 Rows.longSpec Rows.longRow = true := by kernel_rfl
set_option maxRecDepth 100000 in
theorem long_j29 : jf29 Tryz.prog 5 Tryz.f5 Rows.longSpec Rows.longRow = true := by kernel_rfl
set_option maxRecDepth 100000 in
theorem long_j30 : jf30 Tryz.prog 5 Tryz.f5 Rows.longSpec Rows.longRow = true := by kernel_rfl
set_option maxRecDepth 100000 in
theorem long_j31 : jf31 Tryz.prog 5 Tryz.f5 Rows.longSpec Rows.longRow = true := by kernel_rfl
set_option maxRecDepth 100000 in
theorem long_main : Tryz.prog.mainIs = some (Rows.longCard.stood.harness.1, Rows.longCard.stood.harness.2.toList) := by kernel_rfl
set_option maxRecDepth 100000 in
theorem long_goes : false = Rows.longRow.goesBy Tryz.prog := by kernel_rfl
set_option maxRecDepth 100000 in
theorem long_named : Tryz.prog.funcNamed Rows.longRow.func = some 5 := by kernel_rfl
set_option maxRecDepth 100000 in
theorem long_closed : joinedFacts Tryz.prog 5 Tryz.f5 Rows.longSpec Rows.longRow = true :=
  joined_of long_j0 (jp1 _ _ _ _) (jp2 _ _ _ _) long_j3 long_j4 long_j5 (jp6 _ _ _ _) long_j7 (jp8 _ _ _ _) long_j9 long_j10 long_j11 long_j12 long_j13 long_j14 long_j15 long_j16 long_j17 long_j18 long_j19 long_j20 long_j21 long_j22 long_j23 (jp24 _ _ _ _) (jp25 _ _ _ _) long_j26 long_j27 long_j28 long_j29 long_j30 long_j31

set_option maxRecDepth 100000 in
theorem long_row : Rows.LongSaid :=
  OpenClaim.holds_of_wide 5 Tryz.f5 rfl rfl rfl rfl rfl rfl rfl ⟨rfl, rfl, rfl, rfl, rfl⟩ rfl rfl rfl rfl rfl long_named Tryz.func5 long_closed
    (of_decide_eq_true (by kernel_rfl)) (by unfold Func.isWrapper; first | (rw [if_pos (by decide +kernel)]; kernel_rfl) | (rw [if_neg (by decide +kernel)]; exact ⟨rfl, rfl⟩))
    (fun os started H enc _ => long_lifted os started H enc)

set_option maxRecDepth 100000 in
theorem long_card : Rows.LongCardSaid :=
  Claim7.holds_tied_plain_at .later [] [.data, .data, .data, .data, .pinned] true Rows.longCard.stood.harness false long_row (fun _ h => by cases h) (by kernel_rfl) (fun _ h => by cases h) long_row_tie rfl ⟨rfl, rfl⟩ long_main rfl
    (fun f fn hf hfn => by
      obtain rfl : f = 5 := Option.some.inj (long_named.symm.trans hf) |>.symm
      obtain rfl : fn = Tryz.f5 := (Option.some.inj (Tryz.func5.symm.trans hfn)).symm
      exact ⟨jplooks, fun j t ht => by
        rw [Tryz.params5] at ht
        have hm : t ∈ [9, 9, 9, 4, 3] := by simpa using Array.mem_of_getElem? ht
        have hall : ([9, 9, 9, 4, 3].all fun u => !Tryz.prog.wantsStandIn u) = true := by kernel_rfl
        exact (show Tryz.prog.wantsStandIn t = false by simpa using List.all_eq_true.1 hall t hm)⟩)
    long_goes
#print axioms long_card
end Go.Proofs.YtnhfdcfnojnofaaGreatDoor
