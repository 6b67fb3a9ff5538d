/-
  PLANESLAW'S PLAINS: for every script the call returns true, and the script reads behind it as before; the listed variables of Go's library lie as their text lays them.
-/
import Derived.Test.YtnhfdcfnojnofaaGreatDoorPls1Z38
import Derived.Test.YtnhfdcfnojnofaaGreatDoorPls1Z40
import Derived.ChangeArms
import Derived.Carry
set_option linter.unusedSimpArgs false
set_option linter.unusedVariables false
namespace Go.Proofs.YtnhfdcfnojnofaaGreatDoor
open Go.ChangeShapes Go.WideShapes Go.ChangeAt Go.RowKit

theorem laidOut : laidOutB Tryz.prog = true := by kernel_rfl

theorem mapM_get {f : Nat → Option Value} : ∀ {l : List Nat} {r : List Value}, l.mapM f = some r → r.length = l.length ∧ ∀ (j x : Nat), l[j]? = some x → f x = r[j]?
  | [], r, h => by
    simp at h
    subst h
    exact ⟨rfl, fun j x hx => by simp at hx⟩
  | i :: l, r, h => by
    rw [List.mapM_cons] at h
    obtain ⟨v, hv, h⟩ := Option.bind_eq_some_iff.1 h
    obtain ⟨r', hr', h⟩ := Option.bind_eq_some_iff.1 h
    have e : v :: r' = r := Option.some.inj h
    subst e
    obtain ⟨h1, h2⟩ := mapM_get hr'
    refine ⟨by simp [h1], fun j x hx => ?_⟩
    cases j with
    | zero => simp at hx; subst hx; simpa using hv
    | succ j => simpa using h2 j x (by simpa using hx)

theorem cells_at {w : World} {base : Nat} {a : Addr} {m : Nat} {cs : List Value} (h : w.cells? base a m = some cs) : cs.length = m ∧ ∀ j v, cs[j]? = some v → w.cell? (a.add j) = some v := by
  unfold World.cells? at h
  split at h
  · obtain ⟨h1, h2⟩ := mapM_get h
    rw [List.length_range] at h1
    refine ⟨h1, fun j v hv => ?_⟩
    have hj : j < m := by
      have := (List.getElem?_eq_some_iff.1 hv).1
      omega
    rw [h2 j j (by rw [List.getElem?_range hj]), hv]
  · simp at h

/-- A step of the script, as it lies in memory. -/
theorem step_of {H : Type} {enc : TypeId × Value → H} {W : World} {sp : Nat → Bool} {held : Bool} {n : Nat} {a : Addr} {y : DataW H × List MemPlace}
    (h : (W.cells? 0 a 6).bind (DataW.trod enc Tryz.prog W 0 sp held n 75) = some y) : a.spot = none ∧ a.block < W.heap.size ∧ StepAt W a.block a.off := by
  obtain ⟨cs, hcs, htr⟩ := Option.bind_eq_some_iff.1 h
  obtain ⟨hl, hat⟩ := cells_at hcs
  obtain ⟨xs, n', _, _, _, hxl, hf⟩ := DataW.trod_struct Tryz.underlying75 htr
  have hxl6 : xs.length = 6 := hxl
  have k3 : Tryz.prog.cellsOf 3 = 1 := by kernel_rfl
  have k9 : Tryz.prog.cellsOf 9 = 1 := by kernel_rfl
  have k41 : Tryz.prog.cellsOf 44 = 1 := by kernel_rfl
  have g0 : DataW.trod enc Tryz.prog W 0 sp held n' 3 ((cs.drop 0).take (Tryz.prog.cellsOf 3)) = xs[0]? := hf 0 _ rfl
  rw [k3, List.getElem?_eq_getElem (by omega)] at g0
  have g1 : DataW.trod enc Tryz.prog W 0 sp held n' 3 ((cs.drop 1).take (Tryz.prog.cellsOf 3)) = xs[1]? := hf 1 _ rfl
  rw [k3, List.getElem?_eq_getElem (by omega)] at g1
  have g2 : DataW.trod enc Tryz.prog W 0 sp held n' 3 ((cs.drop 2).take (Tryz.prog.cellsOf 3)) = xs[2]? := hf 2 _ rfl
  rw [k3, List.getElem?_eq_getElem (by omega)] at g2
  have g3 : DataW.trod enc Tryz.prog W 0 sp held n' 9 ((cs.drop 3).take (Tryz.prog.cellsOf 9)) = xs[3]? := hf 3 _ rfl
  rw [k9, List.getElem?_eq_getElem (by omega)] at g3
  have g4 : DataW.trod enc Tryz.prog W 0 sp held n' 9 ((cs.drop 4).take (Tryz.prog.cellsOf 9)) = xs[4]? := hf 4 _ rfl
  rw [k9, List.getElem?_eq_getElem (by omega)] at g4
  have g5 : DataW.trod enc Tryz.prog W 0 sp held n' 44 ((cs.drop 5).take (Tryz.prog.cellsOf 44)) = xs[5]? := hf 5 _ rfl
  rw [k41, List.getElem?_eq_getElem (by omega)] at g5
  obtain ⟨z0, e0, _⟩ := DataW.trod_int Tryz.underlying3 g0
  obtain ⟨z1, e1, _⟩ := DataW.trod_int Tryz.underlying3 g1
  obtain ⟨z2, e2, _⟩ := DataW.trod_int Tryz.underlying3 g2
  obtain ⟨s3, e3, _, m3⟩ := DataW.trod_string Tryz.underlying9 g3
  obtain ⟨s4, e4, _, m4⟩ := DataW.trod_string Tryz.underlying9 g4
  have e5 : ∃ lo ll lc, (cs.drop 5).take 1 = [.slice lo ll lc] := by
    rcases DataW.trod_slice Tryz.underlying44 g5 with ⟨h1, _⟩ | ⟨a', len, cap', elems, rest, k, _, h1, _⟩
    · exact ⟨_, _, _, h1⟩
    · exact ⟨_, _, _, h1⟩
  obtain ⟨lo, ll, lc, e5⟩ := e5
  have pick : ∀ j v, (cs.drop j).take 1 = [v] → W.cell? (a.add j) = some v := by
    intro j v hv
    refine hat j v ?_
    have h1 := congrArg (fun l : List Value => l[0]?) hv
    simp only [List.getElem?_cons_zero] at h1
    rw [List.getElem?_take_of_lt (by omega), List.getElem?_drop, Nat.add_zero] at h1
    exact h1
  have c0 := pick 0 _ e0
  have c1 := pick 1 _ e1
  have c2 := pick 2 _ e2
  have c3 := pick 3 _ e3
  have c4 := pick 4 _ e4
  have c5 := pick 5 _ e5
  unfold maxLen at m3 m4
  obtain ⟨b, off, spt⟩ := a
  have hspot : spt = none := by simpa [Addr.add] using World.cell?_spot c0
  subst hspot
  refine ⟨rfl, World.block_lt_of_cell? W _ c0, z0, z1, z2, s3, s4, lo, ll, lc, by omega, by omega, ?_, ?_, ?_, ?_, ?_, ?_⟩
  · simpa [Addr.add] using c0
  · simpa [Addr.add] using c1
  · simpa [Addr.add] using c2
  · simpa [Addr.add] using c3
  · simpa [Addr.add] using c4
  · simpa [Addr.add] using c5

set_option maxRecDepth 100000 in
theorem script_open {H : Type} {enc : TypeId × Value → H} {W : World} {b0 : Nat} {r : Reach} {v : Value} {d : DataW H} {ps : List MemPlace} (hval : Value.okWide Tryz.prog W r b0 22 v)
    (h : DataW.Trod enc Tryz.prog W 0 (fun _ => true) true 22 v d ps) :
    ∃ ao n cap, v = .slice ao n cap ∧ n ≤ 9223372036854775807 ∧ (0 < n → ∃ b off, ao = some ⟨b, off, none⟩ ∧ b < W.heap.size ∧ ∀ i, i < n → StepAt W b (off + i * 6)) := by
  obtain ⟨ao, n, cap, rfl⟩ := okWide_slice Tryz.underlying22 hval
  obtain ⟨fuel, hf⟩ := h
  have hcells : (Value.slice ao n cap).cells.toList = [.slice ao n cap] := rfl
  rw [hcells] at hf
  refine ⟨ao, n, cap, rfl, ?_, ?_⟩
  · rcases DataW.trod_slice Tryz.underlying22 hf with ⟨h1, _⟩ | ⟨a, len, cap', elems, rest, k, _, h1, _, _, hlc, hcm, _⟩
    · simp at h1; omega
    · simp only [List.cons.injEq, Value.slice.injEq, and_true] at h1
      unfold maxLen at hcm
      omega
  · intro hn
    rcases DataW.trod_slice Tryz.underlying22 hf with ⟨h1, _⟩ | ⟨a, len, cap', elems, rest, k, _, h1, _, _, hlc, hcm, hlen, hel, _, _⟩
    · simp at h1; omega
    · simp only [List.cons.injEq, Value.slice.injEq, and_true] at h1
      obtain ⟨rfl, rfl, rfl⟩ := h1
      have hc6 : Tryz.prog.cellsOf 75 = 6 := by kernel_rfl
      rw [hc6] at hel
      have hst : ∀ i, i < n → (a.add (i * 6)).spot = none ∧ (a.add (i * 6)).block < W.heap.size ∧ StepAt W (a.add (i * 6)).block (a.add (i * 6)).off := by
        intro i hi
        have h2 := hel i hi
        rw [List.getElem?_eq_getElem (by omega)] at h2
        exact step_of h2
      obtain ⟨bb, oo, sp⟩ := a
      have h0 := (hst 0 hn).1
      simp only [Nat.zero_mul, Addr.add, if_true] at h0
      subst h0
      refine ⟨bb, oo, rfl, ?_, fun i hi => ?_⟩
      · have := (hst 0 hn).2.1
        simpa [Addr.add] using this
      · have h2 := (hst i hi).2.2
        have e : Addr.add ⟨bb, oo, none⟩ (i * 6) = ⟨bb, oo + i * 6, none⟩ := by
          unfold Addr.add
          split
          · rename_i hz; rw [hz]; rfl
          · rfl
        rw [e] at h2
        exact h2

set_option maxRecDepth 100000 in
theorem plains_lifted (os : Os) (started : os.Started) (H : Type) (enc : TypeId × Value → H) :
    ReturnsInHanded {} Tryz.checked os 6 .any (fun w args => (Rows.plainsSpec.pre enc Tryz.prog Tryz.f6 Rows.plainsRow.domain false w args ∧ laidMetH Tryz.prog Rows.plainsRow.laid w) ∧ sizedMet enc Tryz.prog Tryz.f6 (OpenSpec.ofChange Rows.plainsSpec) false w args)
      (Rows.plainsSpec.post enc Tryz.prog Tryz.f6 false true false false) := by
  refine returnsIn_laid_shaped (C := Tryz.checked) (X := fun w _ => laidMetH Tryz.prog Rows.plainsRow.laid w) (fun _ _ _ hh h => h.of_heap hh) own started (by kernel_rfl) Tryz.func6
    (ChangeSpec.witness_shaped (enc := enc) (C := Tryz.checked) (os := os) (X := fun w _ => laidMetH Tryz.prog Rows.plainsRow.laid w) false (World.laidAll Tryz.prog os Rows.plainsRow.laid) #[.slice none 0 0] 8 (World.laidAll_os _ _ _)
      (World.shaped_of_ZipB (by kernel_rfl) (by kernel_rfl)) (by kernel_rfl) (by kernel_rfl) (by kernel_rfl)
      (by rw [MakeChecks.laidMetH_plain _ _ _ (by kernel_rfl)]; exact laidMet_laidAll _ (by kernel_rfl) (by kernel_rfl))) ?_
  intro W base args ds gs before hval0 hW hcnd _ hL hsh _
  have hval : ∀ (j : Nat) t v, Tryz.f6.params[j]? = some t → args[j]? = some v → Value.okWide Tryz.prog W .any base t v := hval0
  have hW' := hW
  obtain ⟨p, q, hA0, hV, rfl, hfz, hnd⟩ := hW
  have hA : DataW.TrodAll enc Tryz.prog W 0 (fun _ => true) true Tryz.f6.params.toList args.toList ds p := hA0
  rw [Tryz.params6] at hA hval
  obtain ⟨v0, vs0, d0, ds0, p0, q0, hargs, rfl, rfl, h0, r0⟩ := trodAll_cons hA
  obtain ⟨rfl, rfl, rfl⟩ := trodAll_nil r0
  obtain rfl : args = #[v0] := by cases args; simp_all
  obtain ⟨rfl, rfl⟩ := trodVars_none hV
  simp only [List.append_nil] at hW'
  obtain ⟨ao, n, cap, rfl, hn, hsc⟩ := script_open (hval 0 22 v0 rfl rfl) h0
  clear hA0 hval0
  refine (plains_any ao n cap hn W (gl_of_laid hL hsh) hsc).mono fun e W' ⟨he, hg⟩ => ?_
  subst he
  have hlt : ∀ x ∈ p0, x.block < W.heap.size := hW'.lt
  exact ⟨_, rfl, post_below (pa := p0) (pv := []) hW' (fun _ _ _ => (trodAll_cons_mk (shut_bool Tryz.underlying4 _) trodAll_mk0))
    (fun sp hsp => by
      have h1 := WideElems.Trod_stays (W' := W') (sp' := sp) laidOut (by kernel_rfl) (of_decide_eq_true (by kernel_rfl)) h0 (fun x hx => hg.same (hlt x hx)) hsp
      have h2 := trodAll_cons_mk h1 (trodAll_mk0 (enc := enc) (P := Tryz.prog) (w := W') (base := 0) (spare := sp) (held := true))
      rw [List.append_nil] at h2
      exact h2) (fun _ _ => rfl) (by simp) hg⟩

set_option maxRecDepth 100000 in
theorem plains_row : Rows.PlainsSaid :=
  OpenClaim.holds_of_wide 6 Tryz.f6 rfl rfl rfl rfl rfl rfl rfl ⟨rfl, rfl, rfl, rfl, rfl⟩ rfl rfl rfl rfl rfl plains_named Tryz.func6 plains_closed
    (of_decide_eq_true (by kernel_rfl)) (by unfold Func.isWrapper; first | (rw [if_pos (by decide +kernel)]; kernel_rfl) | (rw [if_neg (by decide +kernel)]; exact ⟨rfl, rfl⟩))
    (fun os started H enc _ => plains_lifted os started H enc)

set_option maxRecDepth 100000 in
theorem plains_card : Rows.PlainsCardSaid :=
  Claim7.holds_tied_plain_at .later [] [.data, .data, .data, .data, .pinned] true Rows.plainsCard.stood.harness false plains_row (fun _ h => by cases h) (by kernel_rfl) (fun _ h => by cases h) plains_row_tie rfl ⟨rfl, rfl⟩ plains_main rfl
    (fun f fn hf hfn => by
      obtain rfl : f = 6 := Option.some.inj (plains_named.symm.trans hf) |>.symm
      obtain rfl : fn = Tryz.f6 := (Option.some.inj (Tryz.func6.symm.trans hfn)).symm
      exact ⟨jplooks, fun j t ht => by
        rw [Tryz.params6] at ht
        have hm : t ∈ [22] := by simpa using Array.mem_of_getElem? ht
        have hall : ([22].all fun u => !Tryz.prog.wantsStandIn u) = true := by kernel_rfl
        exact (show Tryz.prog.wantsStandIn t = false by simpa using List.all_eq_true.1 hall t hm)⟩)
    plains_goes
#print axioms plains_card
end Go.Proofs.YtnhfdcfnojnofaaGreatDoor
