/-
  What slices.Clone, Plus and Apart of package natural do.
-/
import Derived.Test.YtcmdglfjnepahaaGreatDoorNat6
set_option linter.unusedSimpArgs false
set_option linter.unusedVariables false
namespace Go.Proofs.YtcmdglfjnepahaaGreatDoor
open Go.RowKit

/-- What a clone is: a row of its own that reads alike, and may be written. -/
def OwnU (w w' : World) (v : Value) (ds : List Nat) : Prop :=
  ∃ ao cap, v = .slice ao ds.length cap ∧ ds.length ≤ cap ∧ (ds ≠ [] → ∃ g, ao = some ⟨g, 0, none⟩ ∧ w.heap.size ≤ g ∧ g < w'.heap.size ∧ Row w' g 0 ds ∧ Free w' g 0 ds.length)

set_option maxRecDepth 100000 in
set_option maxHeartbeats 1000000 in
theorem clone_any (w : World) (v : Value) (ds : List Nat) (hv : U32s w v ds) (hlen : ds.length ≤ 1073741824) :
    Calls Tryz.prog 137 #[v] w fun e w' => ∃ x, e = .returned x ∧ OwnU w w' x ds ∧ Below w.heap.size w w' := by
  obtain ⟨ao, cap, rfl, hc, hr⟩ := hv
  have hnil := fun w => Lib.run_eql_slice_nil (P := Tryz.prog) w 60 131 ao ds.length cap 0 0 Tryz.underlying60
  by_cases h0 : ds = []
  · subst h0
    cases ao with
    | none =>
      clear hr hnil
      have hnil := fun w => Lib.run_eql_slice_nil (P := Tryz.prog) w 60 131 none 0 cap 0 0 Tryz.underlying60
      go_enter Tryz.func137, Tryz.ntmps137
      go_wp2
      go_ret
      exact ⟨_, rfl, ⟨none, 0, rfl, Nat.le_refl _, fun h => absurd rfl h⟩, Below.refl _ _⟩
    | some a =>
      clear hr hnil
      have hnil := fun w => Lib.run_eql_slice_nil (P := Tryz.prog) w 60 131 (some a) 0 cap 0 0 Tryz.underlying60
      obtain ⟨i0, hi, hz0, hz1, hz2⟩ := info_parts Tryz.info131
      go_enter Tryz.func137, Tryz.ntmps137
      go_wp2_with (at_builtin; refine wpList_append_own _ rfl _ _ 60 rfl w.heap.size 131 i0 (.int .u32 0) 1 4 Tryz.underlying60 hi hz0 hz1 hz2 rfl (by decide) (.slice (some ⟨w.heap.size, 0, none⟩) 0 0) 0 [] rfl (World.ownsRow_lit w #[] 0 (Nat.le_refl _) (by unfold maxLen; omega) rfl) a 0 cap [] rfl rfl (by simp) (by simp) (by unfold maxLen; omega) (by omega) (by simp) ?_; intro v1 w1 hown hgrow hnn)
      go_ret
      have hv1 : v1 ≠ .slice none 0 0 := fun e => by have := hnn.1 e; simp at this
      obtain ⟨g, cap1, hv, h1, h2, h3, h4, h5⟩ := owns_parts (ds := []) hown hv1
      exact ⟨_, rfl, ⟨_, cap1, hv, by simp, fun h => absurd rfl h⟩, ((Below.refl _ _).alloc (Nat.le_refl _) _).grown hgrow (by simp) (fun k h => by simp [Value.ownBlock] at h; omega)⟩
  · obtain ⟨b, off, rfl, hb, hrow⟩ := hr h0
    obtain ⟨i0, hi, hz0, hz1, hz2⟩ := info_parts Tryz.info131
    have hrow1 : Row (w.alloc (Obj.cells #[] 131)) b off ds := hrow.below ((Below.refl _ _).alloc (Nat.le_refl _) _) hb
    go_enter Tryz.func137, Tryz.ntmps137
    go_wp2_with (at_builtin; refine wpList_append_own _ rfl _ _ 60 rfl w.heap.size 131 i0 (.int .u32 0) 1 4 Tryz.underlying60 hi hz0 hz1 hz2 rfl (by decide) (.slice (some ⟨w.heap.size, 0, none⟩) 0 0) 0 [] rfl (World.ownsRow_lit w #[] 0 (Nat.le_refl _) (by unfold maxLen; omega) rfl) ⟨b, off, none⟩ ds.length cap (ds.map encD) rfl (by simp) (row_news hrow1) (encD_one ds) (by unfold maxLen; omega) (by omega) (by simp) ?_; intro v1 w1 hown hgrow hnn)
    go_ret
    have hv1 : v1 ≠ .slice none 0 0 := fun e => by have := hnn.1 e; simp at this
    rw [List.nil_append] at hown
    obtain ⟨g, cap1, hv, h1, h2, h3, h4, h5⟩ := owns_parts hown hv1
    rw [Nat.zero_add] at hv h1
    exact ⟨_, rfl, ⟨_, cap1, hv, h1, fun _ => ⟨g, rfl, h2, h3, h4, h5 _⟩⟩, ((Below.refl _ _).alloc (Nat.le_refl _) _).grown hgrow (by simp) (fun k h => by simp [Value.ownBlock] at h; omega)⟩
end Go.Proofs.YtcmdglfjnepahaaGreatDoor
