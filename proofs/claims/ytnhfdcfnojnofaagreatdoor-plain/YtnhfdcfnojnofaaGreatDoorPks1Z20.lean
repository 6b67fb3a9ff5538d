/-
  Part 20 of the texts ahead of Pks1: Dvk1, Dvm1, Dvk2, Dvp5.
-/
import Derived.Test.YtnhfdcfnojnofaaGreatDoorPks1Z19
import Derived.Test.YtnhfdcfnojnofaaGreatDoorPks1Z18
import Derived.Deep.RegionWith
set_option linter.unusedSimpArgs false
set_option linter.unusedVariables false
/-
  What takeMax does (package problem).
-/
namespace Go.Proofs.YtnhfdcfnojnofaaGreatDoor
open Go.RowKit
attribute [local go_sem] Oper.semAt_some wide_depth wide_fn

set_option maxHeartbeats 4000000 in
set_option maxRecDepth 100000 in
theorem takeMax_any (s : List UInt8) (hs : s.length ≤ 2000) (gp bc n : Nat) (vR : Value) (zs : List Int) (w : World) (hb : Box2 w gp (.slice (some ⟨bc, 0, none⟩) n n) vR) (hn : n ≤ 4) (hz : Whs w bc zs) (hzl : zs.length = 3 * n) :
    Calls Tryz.prog 239 #[.pointer (some ⟨gp, 0, none⟩), .string ⟨s.toArray⟩] w fun e w' =>
      e = .returned (.bool (lineB wMax n (words s))) ∧ Wr (fun k => k = bc) w w' ∧ (lineB wMax n (words s) = true → Whs w' bc (putS (fun j => 3 * j) 0 zs ((words s).drop 1))) := by
  obtain ⟨b0, b1, b2, b3, b4⟩ := hb
  have hbcl := hz.lt
  have hm : Tryz.prog.follows .mixedOrders = true := by kernel_rfl
  have HPS := hide (Pls.start w w (Below.refl _ _) wMax (fun j => ⟨bc, j * 6, none⟩))
  have HZ := hide hz
  clear hz
  refine (callsIn_wide (n := 0)).1 ?_
  refine callsIn_of_wp_marks Tryz.func239 rfl trivial ?_ rfl
  simp only [Tryz.ntmps239, List.size_toArray, List.length_cons, List.length_nil, Nat.reduceAdd, Nat.reduceSub, Array.replicate_succ, Array.replicate_zero, List.push_toArray, List.append_toArray, List.nil_append, List.cons_append]
  gi_wp2
  refine (callsIn_wide.2 (exactly_mk _ _)).mono ?_
  rintro e w1 ⟨rfl, rfl⟩
  have g0 : (((w.alloc (.cells #[.string ⟨#[109, 97, 120]⟩] 9)).alloc (.cells #[.func (.func 364) #[] #[.pointer (some ⟨w.heap.size, 0, none⟩)]] 429)).alloc (.cells #[.slice (some ⟨w.heap.size + 1, 0, none⟩) 1 1] 433)).cell? ⟨gp, 0, none⟩ = some (.slice (some ⟨bc, 0, none⟩) n n) := ((below3 w _ _ _).cell (p := ⟨gp, 0, none⟩) b4).trans b0
  gi_wp2
  refine (callsIn_wide.2 (within_mk_column _ _ _ _ rfl _)).mono ?_
  rintro e w1 ⟨rfl, rfl⟩
  gi_wp2
  refine range_list (within_seq_column (some ⟨bc, 0, none⟩) bc n n (w.heap.size + 1 + 1 + 1) (by omega) (fun _ => rfl)) rfl (enters_f Tryz.func325 (by kernel_rfl) rfl) (fun v hv => ?_)
    (fun k M A => k ≤ n ∧ ∃ qs ap kp, qs.length = k ∧ Pls w.heap.size w A (w.heap.size + 1 + 1) w.heap.size wMax qs (fun j => ⟨bc, j * 6, none⟩) [w.heap.size + 1 + 1 + 1] ap kp ∧ A.cell? ⟨w.heap.size + 1 + 1 + 1, 0, none⟩ = some (.slice (some ⟨bc, 0, none⟩) n n) ∧ ∀ x, M x ↔ x = w.heap.size + 1 + 1 ∨ (Value.slice ap (k + 1) kp).ownBlock = some x)
    (fun c k A => False) (fun x => x = w.heap.size + 1 + 1 ∨ (Value.slice (some ⟨w.heap.size + 1, 0, none⟩) (0 + 1) 1).ownBlock = some x) ?hI ?hIx ?hC ?h0 ?round ?done ?stop
  case hI =>
    rintro k M A B' ⟨h1, qs, ap, kp, h2, h3, h4, h5⟩ hk
    exact ⟨h1, qs, ap, kp, h2, h3.keep hk (by simp; omega), hk.cell h4, h5⟩
  case hIx =>
    rintro c k A B' h _
    exact h.elim
  case hC =>
    rintro k M A ⟨h1, qs, ap, kp, h2, h3, h4, h5⟩
    refine ⟨h4, fun x hx => ?_⟩
    subst h2
    rcases (h5 x).1 hx with e | e
    · rw [e]; exact h3.lt _ (by simp)
    · exact (h3.own.lt x e).2
  case h0 =>
    refine ⟨Nat.zero_le _, [], some ⟨w.heap.size + 1, 0, none⟩, 1, rfl, ?_, ?_, fun _ => Iff.rfl⟩
    · have h := HPS.out.alloc_avoid (.cells #[.slice (some ⟨bc, 0, none⟩) n n] 106)
      simp only [World.size_alloc] at h
      exact h
    · have := (Boxed.new (((w.alloc (.cells #[.string ⟨#[109, 97, 120]⟩] 9)).alloc (.cells #[.func (.func 364) #[] #[.pointer (some ⟨w.heap.size, 0, none⟩)]] 429)).alloc (.cells #[.slice (some ⟨w.heap.size + 1, 0, none⟩) 1 1] 433)) 106 (.slice (some ⟨bc, 0, none⟩) n n)).cell
      simp only [World.size_alloc] at this
      exact this
  case round =>
    rintro l2 k v M A hv ⟨hkn0, qs, ap, kp, hqk, hP, hbt, hM⟩
    have hkn : k < n := by
      have := (List.getElem?_eq_some_iff.1 hv).1
      rwa [ptrs_len] at this
    rw [ptrs_get hkn] at hv
    injection hv with hv
    subst hv
    subst hqk
    unfold RoundOK
    gi_wp2
    refine ⟨Wr.refl _ _, fun A2 hk2 => ?_⟩
    have hP2 := hP.keep hk2 (by simp; omega)
    have hbt2 := hk2.cell hbt
    have hsA : A.heap.size ≤ A2.heap.size := hk2.size
    have c6 := hP2.box
    have c7 := (hP2.alloc (.cells #[.pointer (some ⟨bc, qs.length * 6, none⟩)] 435)).box
    have c8 := ((hP2.alloc (.cells #[.pointer (some ⟨bc, qs.length * 6, none⟩)] 435)).alloc (.cells #[.func (.func 366) #[] #[.pointer (some ⟨A2.heap.size, 0, none⟩)]] 429)).box
    have HP6 := ((hP2.alloc (.cells #[.pointer (some ⟨bc, qs.length * 6, none⟩)] 435)).alloc (.cells #[.func (.func 366) #[] #[.pointer (some ⟨A2.heap.size, 0, none⟩)]] 429)).drew
    have HB6 : ((A2.alloc (.cells #[.pointer (some ⟨bc, qs.length * 6, none⟩)] 435)).alloc (.cells #[.func (.func 366) #[] #[.pointer (some ⟨A2.heap.size, 0, none⟩)]] 429)).drew.cell? ⟨A2.heap.size + 1, 0, none⟩ = some (placeW A2.heap.size) := by
      have := (Boxed.new (A2.alloc (.cells #[.pointer (some ⟨bc, qs.length * 6, none⟩)] 435)) 429 (placeW A2.heap.size)).cell
      rwa [World.size_alloc] at this
    have HQ6 : ((A2.alloc (.cells #[.pointer (some ⟨bc, qs.length * 6, none⟩)] 435)).alloc (.cells #[.func (.func 366) #[] #[.pointer (some ⟨A2.heap.size, 0, none⟩)]] 429)).drew.cell? ⟨A2.heap.size, 0, none⟩ = some (.pointer (some ⟨bc, qs.length * 6, none⟩)) :=
      ((Boxed.new A2 435 (.pointer (some ⟨bc, qs.length * 6, none⟩))).alloc _).cell
    have HGP : A2.heap.size ≠ w.heap.size + 1 + 1 := by have := hP2.lt (w.heap.size + 1 + 1) (by simp); omega
    have HWB : w.heap.size ≤ A2.heap.size := hP2.bel.size
    have HQS : ∀ g, (Value.slice ap (qs.length + 1) kp).ownBlock = some g → g ≠ A2.heap.size := fun g e => by have := (hP2.own.lt g e).2; omega
    have hql : qs.length ≤ 900 := by omega
    have HE6 : Wr M A2 ((A2.alloc (.cells #[.pointer (some ⟨bc, qs.length * 6, none⟩)] 435)).alloc (.cells #[.func (.func 366) #[] #[.pointer (some ⟨A2.heap.size, 0, none⟩)]] 429)).drew := (Wr.of_below (below2 A2 _ _)).trans (Wr.drew _ _)
    have HT6 : ((A2.alloc (.cells #[.pointer (some ⟨bc, qs.length * 6, none⟩)] 435)).alloc (.cells #[.func (.func 366) #[] #[.pointer (some ⟨A2.heap.size, 0, none⟩)]] 429)).drew.cell? ⟨w.heap.size + 1 + 1 + 1, 0, none⟩ = some (.slice (some ⟨bc, 0, none⟩) n n) := ((Keep.alloc 0 A2 _).trans (Keep.alloc 0 _ _)).cell hbt2
    have HS6 : A2.heap.size ≤ ((A2.alloc (.cells #[.pointer (some ⟨bc, qs.length * 6, none⟩)] 435)).alloc (.cells #[.func (.func 366) #[] #[.pointer (some ⟨A2.heap.size, 0, none⟩)]] 429)).drew.heap.size := by simp; omega
    obtain ⟨A6, hA6⟩ : ∃ A6, ((A2.alloc (.cells #[.pointer (some ⟨bc, qs.length * 6, none⟩)] 435)).alloc (.cells #[.func (.func 366) #[] #[.pointer (some ⟨A2.heap.size, 0, none⟩)]] 429)).drew = A6 := ⟨_, rfl⟩
    have HFIN : Hid (∀ (g cap : Nat) (A4 : World), Pls w.heap.size w (A4.setCell ⟨w.heap.size + 1 + 1, 0, none⟩ (.slice (some ⟨g, 0, none⟩) (qs.length + 1 + 1) cap)) (w.heap.size + 1 + 1) w.heap.size wMax (qs ++ [A2.heap.size]) (fun j => ⟨bc, j * 6, none⟩) [w.heap.size + 1 + 1 + 1] (some ⟨g, 0, none⟩) cap →
        Wr (fun x => x = w.heap.size + 1 + 1 ∨ (Value.slice ap (qs.length + 1) kp).ownBlock = some x) A6 (A4.setCell ⟨w.heap.size + 1 + 1, 0, none⟩ (.slice (some ⟨g, 0, none⟩) (qs.length + 1 + 1) cap)) → ((Value.slice ap (qs.length + 1) kp).ownBlock = some g ∨ A6.heap.size ≤ g) →
        Wr M A2 (A4.setCell ⟨w.heap.size + 1 + 1, 0, none⟩ (.slice (some ⟨g, 0, none⟩) (qs.length + 1 + 1) cap)) ∧ ∃ M' : Nat → Prop, (qs.length + 1 ≤ n ∧ ∃ qs' ap' kp', qs'.length = qs.length + 1 ∧ Pls w.heap.size w (A4.setCell ⟨w.heap.size + 1 + 1, 0, none⟩ (.slice (some ⟨g, 0, none⟩) (qs.length + 1 + 1) cap)) (w.heap.size + 1 + 1) w.heap.size wMax qs' (fun j => ⟨bc, j * 6, none⟩) [w.heap.size + 1 + 1 + 1] ap' kp' ∧
          (A4.setCell ⟨w.heap.size + 1 + 1, 0, none⟩ (.slice (some ⟨g, 0, none⟩) (qs.length + 1 + 1) cap)).cell? ⟨w.heap.size + 1 + 1 + 1, 0, none⟩ = some (.slice (some ⟨bc, 0, none⟩) n n) ∧ ∀ x, M' x ↔ x = w.heap.size + 1 + 1 ∨ (Value.slice ap' (qs.length + 1 + 1) kp').ownBlock = some x) ∧ ∀ x, M' x → M x ∨ A.heap.size ≤ x) := by
      intro g cap A4 hP4 hw4 hat4
      rw [hA6] at HE6 HT6 HS6
      refine ⟨HE6.trans (hw4.mono fun x hx => (hM x).2 hx), fun x => x = w.heap.size + 1 + 1 ∨ (Value.slice (some ⟨g, 0, none⟩) (qs.length + 1 + 1) cap).ownBlock = some x, ⟨by omega, _, _, _, by simp, hP4, ?_, fun _ => Iff.rfl⟩, fun x hx => ?_⟩
      · refine hw4.cell (p := ⟨w.heap.size + 1 + 1 + 1, 0, none⟩) (fun e => ?_) HT6
        rcases e with e | e
        · simp at e
        · exact hP2.sep _ e (w.heap.size + 1 + 1 + 1) (by simp) rfl
      · rcases hx with e | e
        · exact .inl ((hM x).2 (.inl e))
        · have hxg : x = g := by simpa [Value.ownBlock] using e.symm
          subst hxg
          rcases hat4 with e2 | e2
          · exact .inl ((hM _).2 (.inr e2))
          · exact .inr (by omega)
    rw [← hA6] at HFIN
    clear hA6 HE6 HT6 HS6 hbt2 hbt hM hP hP2 HZ HPS
    gi_wp2
    refine wpIn_region_any hm ?_
    try (change wpAnyIn _ _ _ _ _ _ _ _ _ (World.drew _))
    refine wpAnyIn_ready (rs := [0, 1]) (by kernel_rfl) (by simp) ?_
    refine AllReadyIn.cons rfl (fun K hK => ?_) ?_
    · go_simp
      refine hK _ _ ?_
      clear hK K
      refine wpAnyIn_ready (rs := [1]) (by kernel_rfl) (by simp) ?_
      refine AllReadyIn.cons rfl (fun K hK => ?_) ?_
      · go_simp
        refine hK _ _ ?_
        clear hK K
        refine wpAnyIn_ready (rs := [2]) (by kernel_rfl) (by simp) ?_
        refine AllReadyIn.cons rfl (fun K hK => ?_) ?_
        · go_simp
          refine hK _ _ ?_
          clear hK K
          refine wpAnyIn_ready (rs := [3]) (by kernel_rfl) (by simp) ?_
          refine AllReadyIn.cons rfl (fun K hK => ?_) ?_
          · go_simp
            refine hK _ _ ?_
            clear hK K
            refine wpAnyIn_ready (rs := [4]) (by kernel_rfl) (by simp) ?_
            refine AllReadyIn.cons rfl (fun K hK => ?_) ?_
            · go_simp
              refine (CallsIn.inRound l2 (callsIn_wide.2 (wholeInto_mk _ _))).mono ?_
              rintro e A3 ⟨rfl, rfl⟩
              simp only []
              refine hK _ _ ?_
              clear hK K
              refine wpAnyIn_ready (rs := [5]) (by kernel_rfl) (by simp) ?_
              refine AllReadyIn.cons rfl (fun K hK => ?_) ?_
              · go_simp
                refine hK _ _ ?_
                clear hK K
                refine wpAnyIn_ready (rs := [6]) (by kernel_rfl) (by simp) ?_
                refine AllReadyIn.cons rfl (fun K hK => ?_) ?_
                · refine step_place _ rfl (.tmp 15) (.tmp 20) rfl HP6 hql rfl rfl HB6 HQ6 HWB HGP HQS ?_
                  intro g cap A4 hP4 hw4 hat4 d1 d2
                  refine hK _ _ ?_
                  clear hK K
                  refine wpAnyIn_ready (rs := [7]) (by kernel_rfl) (by simp) ?_
                  refine AllReadyIn.cons rfl (fun K hK => ?_) ?_
                  · go_simp
                    refine hK _ _ ?_
                    clear hK K
                    refine wpAnyIn_done (by kernel_rfl) ?_ _
                    gi_wp2
                    exact HFIN.out g cap A4 hP4 hw4 hat4
                  exact AllReadyIn.nil
                exact AllReadyIn.nil
              exact AllReadyIn.nil
            exact AllReadyIn.nil
          exact AllReadyIn.nil
        exact AllReadyIn.nil
      exact AllReadyIn.nil
    refine AllReadyIn.cons rfl (fun K hK => ?_) ?_
    · go_simp
      refine hK _ _ ?_
      clear hK K
      refine wpAnyIn_ready (rs := [0, 2]) (by kernel_rfl) (by simp) ?_
      refine AllReadyIn.cons rfl (fun K hK => ?_) ?_
      · go_simp
        refine hK _ _ ?_
        clear hK K
        refine wpAnyIn_ready (rs := [2]) (by kernel_rfl) (by simp) ?_
        refine AllReadyIn.cons rfl (fun K hK => ?_) ?_
        · go_simp
          refine hK _ _ ?_
          clear hK K
          refine wpAnyIn_ready (rs := [3]) (by kernel_rfl) (by simp) ?_
          refine AllReadyIn.cons rfl (fun K hK => ?_) ?_
          · go_simp
            refine hK _ _ ?_
            clear hK K
            refine wpAnyIn_ready (rs := [4]) (by kernel_rfl) (by simp) ?_
            refine AllReadyIn.cons rfl (fun K hK => ?_) ?_
            · go_simp
              refine (CallsIn.inRound l2 (callsIn_wide.2 (wholeInto_mk _ _))).mono ?_
              rintro e A3 ⟨rfl, rfl⟩
              simp only []
              refine hK _ _ ?_
              clear hK K
              refine wpAnyIn_ready (rs := [5]) (by kernel_rfl) (by simp) ?_
              refine AllReadyIn.cons rfl (fun K hK => ?_) ?_
              · go_simp
                refine hK _ _ ?_
                clear hK K
                refine wpAnyIn_ready (rs := [6]) (by kernel_rfl) (by simp) ?_
                refine AllReadyIn.cons rfl (fun K hK => ?_) ?_
                · refine step_place _ rfl (.tmp 15) (.tmp 20) rfl HP6 hql rfl rfl HB6 HQ6 HWB HGP HQS ?_
                  intro g cap A4 hP4 hw4 hat4 d1 d2
                  refine hK _ _ ?_
                  clear hK K
                  refine wpAnyIn_ready (rs := [7]) (by kernel_rfl) (by simp) ?_
                  refine AllReadyIn.cons rfl (fun K hK => ?_) ?_
                  · go_simp
                    refine hK _ _ ?_
                    clear hK K
                    refine wpAnyIn_done (by kernel_rfl) ?_ _
                    gi_wp2
                    exact HFIN.out g cap A4 hP4 hw4 hat4
                  exact AllReadyIn.nil
                exact AllReadyIn.nil
              exact AllReadyIn.nil
            exact AllReadyIn.nil
          exact AllReadyIn.nil
        exact AllReadyIn.nil
      refine AllReadyIn.cons rfl (fun K hK => ?_) ?_
      · go_simp
        refine hK _ _ ?_
        clear hK K
        refine wpAnyIn_ready (rs := [0, 3]) (by kernel_rfl) (by simp) ?_
        refine AllReadyIn.cons rfl (fun K hK => ?_) ?_
        · go_simp
          refine hK _ _ ?_
          clear hK K
          refine wpAnyIn_ready (rs := [3]) (by kernel_rfl) (by simp) ?_
          refine AllReadyIn.cons rfl (fun K hK => ?_) ?_
          · go_simp
            refine hK _ _ ?_
            clear hK K
            refine wpAnyIn_ready (rs := [4]) (by kernel_rfl) (by simp) ?_
            refine AllReadyIn.cons rfl (fun K hK => ?_) ?_
            · go_simp
              refine (CallsIn.inRound l2 (callsIn_wide.2 (wholeInto_mk _ _))).mono ?_
              rintro e A3 ⟨rfl, rfl⟩
              simp only []
              refine hK _ _ ?_
              clear hK K
              refine wpAnyIn_ready (rs := [5]) (by kernel_rfl) (by simp) ?_
              refine AllReadyIn.cons rfl (fun K hK => ?_) ?_
              · go_simp
                refine hK _ _ ?_
                clear hK K
                refine wpAnyIn_ready (rs := [6]) (by kernel_rfl) (by simp) ?_
                refine AllReadyIn.cons rfl (fun K hK => ?_) ?_
                · refine step_place _ rfl (.tmp 15) (.tmp 20) rfl HP6 hql rfl rfl HB6 HQ6 HWB HGP HQS ?_
                  intro g cap A4 hP4 hw4 hat4 d1 d2
                  refine hK _ _ ?_
                  clear hK K
                  refine wpAnyIn_ready (rs := [7]) (by kernel_rfl) (by simp) ?_
                  refine AllReadyIn.cons rfl (fun K hK => ?_) ?_
                  · go_simp
                    refine hK _ _ ?_
                    clear hK K
                    refine wpAnyIn_done (by kernel_rfl) ?_ _
                    gi_wp2
                    exact HFIN.out g cap A4 hP4 hw4 hat4
                  exact AllReadyIn.nil
                exact AllReadyIn.nil
              exact AllReadyIn.nil
            exact AllReadyIn.nil
          exact AllReadyIn.nil
        refine AllReadyIn.cons rfl (fun K hK => ?_) ?_
        · go_simp
          refine hK _ _ ?_
          clear hK K
          refine wpAnyIn_ready (rs := [0, 4]) (by kernel_rfl) (by simp) ?_
          refine AllReadyIn.cons rfl (fun K hK => ?_) ?_
          · go_simp
            refine hK _ _ ?_
            clear hK K
            refine wpAnyIn_ready (rs := [4]) (by kernel_rfl) (by simp) ?_
            refine AllReadyIn.cons rfl (fun K hK => ?_) ?_
            · go_simp
              refine (CallsIn.inRound l2 (callsIn_wide.2 (wholeInto_mk _ _))).mono ?_
              rintro e A3 ⟨rfl, rfl⟩
              simp only []
              refine hK _ _ ?_
              clear hK K
              refine wpAnyIn_ready (rs := [5]) (by kernel_rfl) (by simp) ?_
              refine AllReadyIn.cons rfl (fun K hK => ?_) ?_
              · go_simp
                refine hK _ _ ?_
                clear hK K
                refine wpAnyIn_ready (rs := [6]) (by kernel_rfl) (by simp) ?_
                refine AllReadyIn.cons rfl (fun K hK => ?_) ?_
                · refine step_place _ rfl (.tmp 15) (.tmp 20) rfl HP6 hql rfl rfl HB6 HQ6 HWB HGP HQS ?_
                  intro g cap A4 hP4 hw4 hat4 d1 d2
                  refine hK _ _ ?_
                  clear hK K
                  refine wpAnyIn_ready (rs := [7]) (by kernel_rfl) (by simp) ?_
                  refine AllReadyIn.cons rfl (fun K hK => ?_) ?_
                  · go_simp
                    refine hK _ _ ?_
                    clear hK K
                    refine wpAnyIn_done (by kernel_rfl) ?_ _
                    gi_wp2
                    exact HFIN.out g cap A4 hP4 hw4 hat4
                  exact AllReadyIn.nil
                exact AllReadyIn.nil
              exact AllReadyIn.nil
            exact AllReadyIn.nil
          refine AllReadyIn.cons rfl (fun K hK => ?_) ?_
          · go_simp
            refine (CallsIn.inRound l2 (callsIn_wide.2 (wholeInto_mk _ _))).mono ?_
            rintro e A3 ⟨rfl, rfl⟩
            simp only []
            refine hK _ _ ?_
            clear hK K
            refine wpAnyIn_ready (rs := [0, 5]) (by kernel_rfl) (by simp) ?_
            refine AllReadyIn.cons rfl (fun K hK => ?_) ?_
            · go_simp
              refine hK _ _ ?_
              clear hK K
              refine wpAnyIn_ready (rs := [5]) (by kernel_rfl) (by simp) ?_
              refine AllReadyIn.cons rfl (fun K hK => ?_) ?_
              · go_simp
                refine hK _ _ ?_
                clear hK K
                refine wpAnyIn_ready (rs := [6]) (by kernel_rfl) (by simp) ?_
                refine AllReadyIn.cons rfl (fun K hK => ?_) ?_
                · refine step_place _ rfl (.tmp 15) (.tmp 20) rfl HP6 hql rfl rfl HB6 HQ6 HWB HGP HQS ?_
                  intro g cap A4 hP4 hw4 hat4 d1 d2
                  refine hK _ _ ?_
                  clear hK K
                  refine wpAnyIn_ready (rs := [7]) (by kernel_rfl) (by simp) ?_
                  refine AllReadyIn.cons rfl (fun K hK => ?_) ?_
                  · go_simp
                    refine hK _ _ ?_
                    clear hK K
                    refine wpAnyIn_done (by kernel_rfl) ?_ _
                    gi_wp2
                    exact HFIN.out g cap A4 hP4 hw4 hat4
                  exact AllReadyIn.nil
                exact AllReadyIn.nil
              exact AllReadyIn.nil
            refine AllReadyIn.cons rfl (fun K hK => ?_) ?_
            · go_simp
              refine hK _ _ ?_
              clear hK K
              refine wpAnyIn_ready (rs := [0]) (by kernel_rfl) (by simp) ?_
              refine AllReadyIn.cons rfl (fun K hK => ?_) ?_
              · go_simp
                refine hK _ _ ?_
                clear hK K
                refine wpAnyIn_ready (rs := [6]) (by kernel_rfl) (by simp) ?_
                refine AllReadyIn.cons rfl (fun K hK => ?_) ?_
                · refine step_place _ rfl (.tmp 15) (.tmp 20) rfl HP6 hql rfl rfl HB6 HQ6 HWB HGP HQS ?_
                  intro g cap A4 hP4 hw4 hat4 d1 d2
                  refine hK _ _ ?_
                  clear hK K
                  refine wpAnyIn_ready (rs := [7]) (by kernel_rfl) (by simp) ?_
                  refine AllReadyIn.cons rfl (fun K hK => ?_) ?_
                  · go_simp
                    refine hK _ _ ?_
                    clear hK K
                    refine wpAnyIn_done (by kernel_rfl) ?_ _
                    gi_wp2
                    exact HFIN.out g cap A4 hP4 hw4 hat4
                  exact AllReadyIn.nil
                exact AllReadyIn.nil
              exact AllReadyIn.nil
            exact AllReadyIn.nil
          exact AllReadyIn.nil
        exact AllReadyIn.nil
      exact AllReadyIn.nil
    exact AllReadyIn.nil
  case done =>
    rintro D M A hD ⟨h1, qs, ap, kp, hqk, hP, hbt, hM⟩ hd
    rw [ptrs_len] at hqk
    subst hqk
    obtain ⟨g, rfl, hgB, hgl, hcap, hcap9, hrow⟩ := hP.row
    have c0 := hP.box
    have HF := hide (fits_wholes s hs wMax w.heap.size qs (fun j => 3 * j) bc zs g kp A (by omega) (by omega) hcap hcap9 hrow hP.q0c (by omega)
      (fun j q hq => ⟨by have := (hP.new.2.2.2 q (List.mem_of_getElem? hq)).1; omega, by have := hP.qsc j q hq; rw [show 2 * (3 * j) = j * 6 by omega]; exact this, by have := (List.getElem?_eq_some_iff.1 hq).1; omega⟩) (HZ.out.below hP.bel))
    have hbA := hP.bel
    clear hP hM hbt hrow
    gi_wp2
    refine (callsIn_wide.2 HF.out).mono ?_
    rintro e A5 ⟨rfl, hw5, hz5⟩
    have hDs : w.heap.size < D := by simp at hD; omega
    have hd5 : A5.heap[D]? = some (.deferred (some [])) := hw5.some hd (by omega)
    have hkp : Keep w.heap.size A5 (A5.putObj D (.deferred none)) := Keep.putObj (.deferred none) (by omega) hd5 rfl
    have HZ5 := hide hz5
    clear hz5
    gi_wp2
    refine leave_mark hd5 ?_
    refine ⟨_, by simp [results, Tryz.results239, go_sem], rfl, ((Wr.of_below hbA).trans hw5).keep hkp, fun hl => (HZ5.out hl).keep hkp⟩
  case stop =>
    rintro D c k A hD hk h hd
    exact h.elim
  · obtain ⟨i, hi, rfl⟩ := List.mem_map.1 hv
    rfl
end Go.Proofs.YtnhfdcfnojnofaaGreatDoor

/-
  Rows of whole numbers, newly made (package problem).
-/
namespace Go.Proofs.YtnhfdcfnojnofaaGreatDoor
open Go.RowKit

theorem whs_block {w : World} {g m : Nat} {cs : Array Value} {t : TypeId} (h : w.heap[g]? = some (.cells cs t (0, 0))) (hs : cs.size = 2 * m)
    (hc : ∀ j, j < m → cs[2 * j]? = some (.bool false) ∧ cs[2 * j + 1]? = some (.slice none 0 0)) : Whs w g (List.replicate m 0) := by
  refine ⟨nodig_of_block h fun v hv => ?_, fun j hj => ?_⟩
  · obtain ⟨i, hi, rfl⟩ := Array.mem_iff_getElem.1 (by simpa using hv : v ∈ cs)
    have h2 := hc (i / 2) (by omega)
    rcases Nat.mod_two_eq_zero_or_one i with e | e
    · have := h2.1
      rw [show 2 * (i / 2) = i by omega, Array.getElem?_eq_getElem hi] at this
      injection this with this
      rw [this]; intro n e; cases e
    · have := h2.2
      rw [show 2 * (i / 2) + 1 = i by omega, Array.getElem?_eq_getElem hi] at this
      injection this with this
      rw [this]; intro n e; cases e
  · rw [List.length_replicate] at hj
    have e : (List.replicate m (0 : Int)).getD j 0 = 0 := by simp [List.getD_eq_getElem?_getD, List.getElem?_replicate, hj]
    rw [e]
    refine ⟨false, none, 0, 0, ?_, ?_, ⟨false, _, rfl, NatV.zero _ _ _, by rw [Hid]; rfl⟩, frozen_of_row w g _ cs t h, frozen_of_row w g _ cs t h⟩
    · rw [cell_of_row w g _ cs t _ h]; exact (hc j hj).1
    · rw [cell_of_row w g _ cs t _ h]; exact (hc j hj).2

theorem made_block {w : World} {g n size : Nat} {e : TypeId} {z : Array Value} (h : w.ownsRow 0 e size (.slice (some ⟨g, 0, none⟩) n n) n (madeCells z (n * size)).toList) : w.heap[g]? = some (.cells (madeCells z (n * size)) e (0, 0)) := by
  obtain ⟨_, h1 | ⟨g', cap, cur, hv, _, hh, _, _, hsz, htk⟩⟩ := h
  · exact absurd h1.1 (by simp)
  · simp only [Value.slice.injEq, Option.some.injEq, Addr.mk.injEq] at hv
    obtain ⟨⟨rfl, _, _⟩, _, rfl⟩ := hv
    rw [List.take_of_length_le (by simp; omega)] at htk
    rw [hh]
    congr 2
    exact Array.toList_inj.1 htk

theorem made_get {z : Array Value} {m j : Nat} (h : j < m) : (madeCells z m)[j]? = some (z[j % z.size]!) := by
  simp [madeCells, h]

theorem whs_made6 {w : World} {g n : Nat} {e : TypeId} (h : w.ownsRow 0 e 6 (.slice (some ⟨g, 0, none⟩) n n) n (madeCells #[.bool false, .slice none 0 0, .bool false, .slice none 0 0, .bool false, .slice none 0 0] (n * 6)).toList) : Whs w g (List.replicate (3 * n) 0) := by
  refine whs_block (made_block h) (by rw [size_madeCells]; omega) fun j hj => ⟨?_, ?_⟩
  · rw [made_get (by omega)]
    have : (2 * j) % (#[Value.bool false, .slice none 0 0, .bool false, .slice none 0 0, .bool false, .slice none 0 0] : Array Value).size = 0 ∨ (2 * j) % (#[Value.bool false, .slice none 0 0, .bool false, .slice none 0 0, .bool false, .slice none 0 0] : Array Value).size = 2 ∨ (2 * j) % (#[Value.bool false, .slice none 0 0, .bool false, .slice none 0 0, .bool false, .slice none 0 0] : Array Value).size = 4 := by simp; omega
    rcases this with e | e | e <;> (rw [e]; rfl)
  · rw [made_get (by omega)]
    have : (2 * j + 1) % (#[Value.bool false, .slice none 0 0, .bool false, .slice none 0 0, .bool false, .slice none 0 0] : Array Value).size = 1 ∨ (2 * j + 1) % (#[Value.bool false, .slice none 0 0, .bool false, .slice none 0 0, .bool false, .slice none 0 0] : Array Value).size = 3 ∨ (2 * j + 1) % (#[Value.bool false, .slice none 0 0, .bool false, .slice none 0 0, .bool false, .slice none 0 0] : Array Value).size = 5 := by simp; omega
    rcases this with e | e | e <;> (rw [e]; rfl)
/-- Four blocks, newly laid. -/
theorem quad_heap (w : World) (a b c d : Obj) : ((((w.alloc a).alloc b).alloc c).alloc d).heap[w.heap.size]? = some a ∧ ((((w.alloc a).alloc b).alloc c).alloc d).heap[w.heap.size + 1]? = some b ∧ ((((w.alloc a).alloc b).alloc c).alloc d).heap[w.heap.size + 1 + 1]? = some c ∧ ((((w.alloc a).alloc b).alloc c).alloc d).heap[w.heap.size + 1 + 1 + 1]? = some d := by
  have s1 : (w.alloc a).heap.size = w.heap.size + 1 := World.size_alloc _ _
  have s2 : ((w.alloc a).alloc b).heap.size = w.heap.size + 1 + 1 := by rw [World.size_alloc, s1]
  have s3 : (((w.alloc a).alloc b).alloc c).heap.size = w.heap.size + 1 + 1 + 1 := by rw [World.size_alloc, s2]
  have h1 := World.alloc_heap_new w a
  have h2 := World.alloc_heap_new (w.alloc a) b
  have h3 := World.alloc_heap_new ((w.alloc a).alloc b) c
  have h4 := World.alloc_heap_new (((w.alloc a).alloc b).alloc c) d
  rw [s1] at h2
  rw [s2] at h3
  rw [s3] at h4
  refine ⟨?_, ?_, ?_, h4⟩
  · rw [Below.heap_alloc _ _ _ (by omega), Below.heap_alloc _ _ _ (by omega), Below.heap_alloc _ _ _ (by omega)]; exact h1
  · rw [Below.heap_alloc _ _ _ (by omega), Below.heap_alloc _ _ _ (by omega)]; exact h2
  · rw [Below.heap_alloc _ _ _ (by omega)]; exact h3

theorem Tryz.infoColumn : (Tryz.prog.info? 153).map (fun i => (i.zero, i.size, i.bytes)) = some (some (.agg #[.bool false, .slice none 0 0, .bool false, .slice none 0 0, .bool false, .slice none 0 0]), 6, 96) := by kernel_rfl
theorem Tryz.infoWhole : (Tryz.prog.info? 101).map (fun i => (i.zero, i.size, i.bytes)) = some (some (.agg #[.bool false, .slice none 0 0]), 2, 32) := by kernel_rfl
theorem Tryz.infoRow : (Tryz.prog.info? 160).map (fun i => (i.zero, i.size, i.bytes)) = some (some (.agg #[.string ⟨#[]⟩, .bool false, .slice none 0 0, .slice none 0 0]), 4, 72) := by kernel_rfl
end Go.Proofs.YtnhfdcfnojnofaaGreatDoor

/-
  What takeRange does (package problem).
-/
namespace Go.Proofs.YtnhfdcfnojnofaaGreatDoor
open Go.RowKit

set_option maxHeartbeats 2000000 in
set_option maxRecDepth 100000 in
theorem takeRange_any (s : List UInt8) (hs : s.length ≤ 2000) (gp bc n m : Nat) (vR : Value) (zs : List Int) (w : World) (hb : Box2 w gp (.slice (some ⟨bc, 0, none⟩) n n) vR) (hn : n ≤ 4) (hmn : m < n) (hz : Whs w bc zs) (hzl : zs.length = 3 * n) :
    Calls Tryz.prog 240 #[.pointer (some ⟨gp, 0, none⟩), .string ⟨s.toArray⟩, .int .i64 (m : Nat)] w fun e w' =>
      e = .returned (.bool (lineB wRange 2 (words s))) ∧ Wr (fun k => k = bc) w w' ∧ (lineB wRange 2 (words s) = true → Whs w' bc (putS (fun j => 3 * m + 1 + j) 0 zs ((words s).drop 1))) := by
  obtain ⟨b0, b1, b2, b3, b4⟩ := hb
  have hbcl := hz.lt
  obtain ⟨t0, t1, t2, t3⟩ := quad_heap w (.cells #[.string ⟨wRange.toArray⟩] 9) (.cells #[.pointer (some ⟨bc, m * 6 + 2, none⟩)] 435) (.cells #[.pointer (some ⟨bc, m * 6 + 4, none⟩)] 435) (.cells #[placeE w.heap.size, placeW (w.heap.size + 1), placeW (w.heap.size + 1 + 1)] 429)
  have hbF : Below w.heap.size w ((((w.alloc (.cells #[.string ⟨wRange.toArray⟩] 9)).alloc (.cells #[.pointer (some ⟨bc, m * 6 + 2, none⟩)] 435)).alloc (.cells #[.pointer (some ⟨bc, m * 6 + 4, none⟩)] 435)).alloc (.cells #[placeE w.heap.size, placeW (w.heap.size + 1), placeW (w.heap.size + 1 + 1)] 429)).drew := ((below3 w _ _ _).alloc (by simp; omega) _).trans (c := World.drew _) ⟨rfl, rfl, rfl, Nat.le_refl _, fun _ _ => rfl⟩
  have HF := hide (fits_wholes s hs wRange w.heap.size [w.heap.size + 1, w.heap.size + 1 + 1] (fun j => 3 * m + 1 + j) bc zs (w.heap.size + 1 + 1 + 1) 3
    ((((w.alloc (.cells #[.string ⟨wRange.toArray⟩] 9)).alloc (.cells #[.pointer (some ⟨bc, m * 6 + 2, none⟩)] 435)).alloc (.cells #[.pointer (some ⟨bc, m * 6 + 4, none⟩)] 435)).alloc (.cells #[placeE w.heap.size, placeW (w.heap.size + 1), placeW (w.heap.size + 1 + 1)] 429)).drew
    (by omega) (by simp) (by simp) (by omega)
    (fun i fv hf => by
      refine (cell_of_row _ _ _ _ _ _ t3).trans ?_
      match i, hf with
      | 0, hf => simpa using hf
      | 1, hf => simpa using hf
      | 2, hf => simpa using hf
      | i + 3, hf => simp at hf)
    (cell_of_row _ _ _ _ _ _ t0) (by omega)
    (fun j q hq => by
      match j, hq with
      | 0, hq =>
        simp at hq
        subst hq
        refine ⟨by omega, ?_, by omega⟩
        rw [show 2 * (3 * m + 1 + 0) = m * 6 + 2 by omega]
        exact cell_of_row _ _ _ _ _ _ t1
      | 1, hq =>
        simp at hq
        subst hq
        refine ⟨by omega, ?_, by omega⟩
        rw [show 2 * (3 * m + 1 + 1) = m * 6 + 4 by omega]
        exact cell_of_row _ _ _ _ _ _ t2
      | j + 2, hq => simp at hq)
    (hz.below hbF))
  clear t0 t1 t2 t3 hz
  go_enter Tryz.func240, Tryz.ntmps240
  go_wp2_with fail
  go_region_with (first | (go_at_call 320; refine (exactly_mk _ _).mono ?_; rintro e w1 ⟨rfl, rfl⟩) | (go_at_call 322; refine (wholeInto_mk _ _).mono ?_; rintro e w2 ⟨rfl, rfl⟩) | (go_at_call 319; refine HF.out.mono ?_; rintro e w5 ⟨rfl, hw5, hz5⟩))
  all_goals go_wp2
  all_goals go_ret
  all_goals exact ⟨rfl, (Wr.of_below hbF).trans hw5, hz5⟩
end Go.Proofs.YtnhfdcfnojnofaaGreatDoor

/-
  The first line, as fits reads it (package problem).
-/
namespace Go.Proofs.YtnhfdcfnojnofaaGreatDoor
open Go.RowKit

theorem varsN_cnt (ws : List (List UInt8)) : T.varsN ws = if ws.length = 2 ∧ ws.getD 0 [] = wVars then cntB (ws.getD 1 []) else 0 := by
  unfold T.varsN cntB T.varB wVars
  by_cases h1 : ws.length = 2 ∧ ws.getD 0 [] = [118, 97, 114, 115]
  · by_cases h2 : (ws.getD 1 []).length = 1
    · rw [if_pos ⟨h1.1, h1.2, h2⟩, if_pos h1, if_pos h2]
    · rw [if_neg (fun h => h2 h.2.2), if_pos h1, if_neg h2]
  · rw [if_neg (fun h => h1 ⟨h.1, h.2.1⟩), if_neg h1]

theorem fitsB_vars (ws : List (List UInt8)) : fitsB 2 (fun k x => if k = 0 then decide (x = wVars) else decide (cntB x ≠ 0)) ws = decide (T.varsN ws ≠ 0) := by
  unfold fitsB
  rw [decide_eq_decide, varsN_cnt]
  constructor
  · rintro ⟨h1, h2⟩
    have a := h2 0 (by omega)
    have b := h2 1 (by omega)
    simp at a b
    rw [if_pos ⟨h1, by simpa using a⟩]
    simpa using b
  · intro h
    split at h
    · rename_i hc
      refine ⟨hc.1, fun j hj => ?_⟩
      dsimp only
      obtain rfl | rfl : j = 0 ∨ j = 1 := by omega
      · rw [if_pos rfl, hc.2]; simp
      · rw [if_neg (by omega)]; simpa using h
    · exact absurd rfl h

theorem fits_vars (s : List UInt8) (hs : s.length ≤ 2000) (q0 qn c : Nat) (g cap : Nat) (w : World)
    (hg : g ≠ c) (hcap : 2 ≤ cap) (hcap9 : cap ≤ 9223372036854775807)
    (hrow : ∀ i fv, [placeE q0, placeN qn][i]? = some fv → w.cell? ⟨g, i, none⟩ = some fv)
    (h0 : w.cell? ⟨q0, 0, none⟩ = some (.string ⟨wVars.toArray⟩)) (hq0 : q0 ≠ c)
    (h1 : w.cell? ⟨qn, 0, none⟩ = some (.pointer (some ⟨c, 0, none⟩))) (hqn : qn ≠ c)
    (hc : w.cell? ⟨c, 0, none⟩ = some (.int .i64 0)) (hf : w.frozen? ⟨c, 0, none⟩ = false) :
    Calls Tryz.prog 319 #[.string ⟨s.toArray⟩, .slice (some ⟨g, 0, none⟩) 2 cap] w fun e w' =>
      e = .returned (.bool (decide (T.varsN (words s) ≠ 0))) ∧ Wr (fun k => k = c) w w' ∧ (T.varsN (words s) ≠ 0 → w'.cell? ⟨c, 0, none⟩ = some (.int .i64 (T.varsN (words s) : Nat))) := by
  have hcl : c < w.heap.size := block_lt_of_cell hc
  have hF := fits_any s hs [placeE q0, placeN qn] (fun k x => if k = 0 then decide (x = wVars) else decide (cntB x ≠ 0)) (fun k => k = c)
    (fun pre A => ∃ z : Int, A.cell? ⟨c, 0, none⟩ = some (.int .i64 z) ∧ A.frozen? ⟨c, 0, none⟩ = false ∧ (1 < pre.length → z = (cntB (pre.getD 1 []) : Nat))) g cap w
    (fun x hx => hx ▸ hcl) hg (by simp) (by simpa using hcap) hcap9 hrow
    (fun pre A B hA hk => by obtain ⟨z, a1, a2, a3⟩ := hA; exact ⟨z, hk.cell a1, (hk.frozen a1).trans a2, a3⟩)
    (fun pre A a y v hA hy hn ha => by obtain ⟨z, a1, a2, a3⟩ := hA; exact ⟨z, (World.cell?_setCell_far _ _ _ _ (by simp; omega)).trans a1, by simpa using a2, a3⟩) ?_ ⟨0, hc, hf, fun h => by simp at h⟩
  · have e2 : [placeE q0, placeN qn].length = 2 := rfl
    rw [e2, fitsB_vars] at hF
    refine hF.mono ?_
    rintro e w' ⟨rfl, hw, hst⟩
    refine ⟨rfl, hw, fun hv => ?_⟩
    obtain ⟨z, a1, a2, a3⟩ := hst (by simpa using hv)
    have hv2 := hv
    rw [varsN_cnt] at hv2
    have hvv := varsN_cnt (words s)
    split at hv2
    · rename_i hcc
      rw [if_pos hcc] at hvv
      rw [a1, a3 (by omega), hvv]
    · exact absurd rfl hv2
  · intro k fv hfv
    match k, hfv with
    | 0, hfv =>
      simp at hfv
      subst hfv
      refine ⟨_, q0, rfl, enters_E, fun pre x W hp hx hw hst => ?_⟩
      refine (exactly_call x wVars q0 W (hw.cell (p := ⟨q0, 0, none⟩) hq0 h0)).mono ?_
      rintro e W' ⟨rfl, rfl⟩
      obtain rfl : pre = [] := List.eq_nil_of_length_eq_zero hp
      obtain ⟨z, a1, a2, a3⟩ := hst
      exact ⟨rfl, Wr.refl _ _, fun _ => ⟨z, a1, a2, fun h => by simp at h⟩⟩
    | 1, hfv =>
      simp at hfv
      subst hfv
      refine ⟨_, qn, rfl, enters_N, fun pre x W hp hx hw hst => ?_⟩
      obtain ⟨z, a1, a2, a3⟩ := hst
      refine (countInto_call x qn c z W (hw.cell (p := ⟨qn, 0, none⟩) hqn h1) a1 a2 (by omega)).mono ?_
      rintro e W' ⟨rfl, hw', hz'⟩
      refine ⟨rfl, ?_, fun hok => ⟨(cntB x : Nat), hz' (by simpa using hok), ?_, fun _ => ?_⟩⟩
      · rcases hw' with rfl | rfl
        · exact Wr.refl _ _
        · exact Wr.setCell (T := fun k => k = c) (Wr.drew _ _) (p := ⟨c, 0, none⟩) rfl _
      · rcases hw' with rfl | rfl
        · exact a2
        · simpa using a2
      · rw [List.getD_eq_getElem?_getD, List.getElem?_append_right (by omega), hp]
        simp
    | k + 2, hfv => simp at hfv
end Go.Proofs.YtnhfdcfnojnofaaGreatDoor
