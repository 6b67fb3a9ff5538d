/-
  Part 23 of the texts ahead of Pks1: Dvk4.
-/
import Derived.Test.YtnhfdcfnojnofaaGreatDoorPks1Z22
import Derived.Deep.RegionLaw
set_option linter.unusedSimpArgs false
set_option linter.unusedVariables false
/-
  What takeRow does (package problem): up to the line's reading.
-/
namespace Go.Proofs.YtnhfdcfnojnofaaGreatDoor
open Go.RowKit
attribute [local go_sem] Oper.semAt_some wide_depth wide_fn

set_option maxHeartbeats 4000000 in
set_option maxRecDepth 100000 in
theorem takeRow_any (s : List UInt8) (hs : s.length ≤ 2000) (gp bc : Nat) (p : Prob) (vR : Value) (w : World) (h : DQ w gp p (.slice (some ⟨bc, 0, none⟩) p.n p.n) vR) (hn0 : 0 < p.n) (hn : p.n ≤ 4) (hrl6 : p.rows.length ≤ 6) :
    Calls Tryz.prog 241 #[.pointer (some ⟨gp, 0, none⟩), .string ⟨s.toArray⟩] w fun e w' =>
      e = .returned (.bool (rowB p.n (words s))) ∧ Wr (Own gp (.slice (some ⟨bc, 0, none⟩) p.n p.n) vR) w w' ∧ (rowB p.n (words s) = true → ∃ vR', DQ w' gp { p with rows := p.rows ++ [rowOf p.n (words s)] } (.slice (some ⟨bc, 0, none⟩) p.n p.n) vR' ∧ ∀ k, vR'.ownBlock = some k → vR.ownBlock = some k ∨ w.heap.size ≤ k) := by
  obtain ⟨i0, hi, hz0, hz1, hz2⟩ := info_parts Tryz.infoWhole
  obtain ⟨b0, b1, b2, b3, b4⟩ := h.box
  have hm : Tryz.prog.follows .mixedOrders = true := by kernel_rfl
  obtain ⟨w1, hrun, hown1, hg1⟩ := run_make_full (P := Tryz.prog) w 0 158 101 i0 _ 2 Tryz.underlying158 hi hz0 hz1 .i64 .i64 p.n (by rw [hz2]; omega) (by unfold maxLen; omega) (Nat.zero_le _)
  have hb1 : Below w.heap.size w w1 := (Below.refl _ _).grown hg1 (Nat.le_refl _) (fun k h => by simp at h)
  have hbf1 : w1.heap[w.heap.size]? = some (.cells (madeCells #[.bool false, .slice none 0 0] (p.n * 2)) 101 (0, 0)) := made_block hown1
  have hlt1 : w.heap.size < w1.heap.size := lt_of_block hbf1
  obtain ⟨gr, hgr⟩ : ∃ gr, w1.heap.size = gr := ⟨_, rfl⟩
  obtain ⟨W2, hW2⟩ : ∃ W2, w1.alloc (.cells #[.string ⟨#[]⟩, .bool false, .slice none 0 0, .slice (some ⟨w.heap.size, 0, none⟩) p.n p.n] 160) = W2 := ⟨_, rfl⟩
  have hb2 : Below w.heap.size w W2 := by rw [← hW2]; exact hb1.alloc hb1.size _
  have hRB : RowB W2 w.heap.size gr p.n := by
    rw [← hW2]
    refine ⟨(Below.heap_alloc _ _ _ hlt1).trans hbf1, ?_⟩
    rw [← hgr]; exact World.alloc_heap_new w1 _
  have hs2 : W2.heap.size = gr + 1 := by rw [← hW2, ← hgr]; exact World.size_alloc _ _
  have HPS := hide (Pls.start w W2 hb2 wRow (fun j => ⟨w.heap.size, j * 2, none⟩))
  have HD := hide h
  have hgrl : w.heap.size < gr := by omega
  have hn := hn
  clear h hown1 hg1 hbf1
  generalize hnn : p.n = n at *
  refine (callsIn_wide (n := 0)).1 ?_
  refine callsIn_of_wp_marks Tryz.func241 rfl trivial ?_ rfl
  simp only [Tryz.ntmps241, List.size_toArray, List.length_cons, List.length_nil, Nat.reduceAdd, Nat.reduceSub, Array.replicate_succ, Array.replicate_zero, List.push_toArray, List.append_toArray, List.nil_append, List.cons_append]
  rw [hs2] at HPS
  gi_wp2
  refine (callsIn_wide.2 (exactly_mk _ _)).mono ?_
  rintro e w2 ⟨rfl, rfl⟩
  have g0 : (((W2.alloc (.cells #[.string ⟨#[114, 111, 119]⟩] 9)).alloc (.cells #[.func (.func 364) #[] #[.pointer (some ⟨gr + 1, 0, none⟩)]] 429)).alloc (.cells #[.slice (some ⟨gr + 1 + 1, 0, none⟩) 1 1] 433)).cell? ⟨gr, 3, none⟩ = some (.slice (some ⟨w.heap.size, 0, none⟩) n n) :=
    ((below3 W2 _ _ _).cell (p := ⟨gr, 3, none⟩) (by simp; omega)).trans (cell_of_row _ _ _ _ _ _ hRB.2)
  gi_wp2
  refine (callsIn_wide.2 (within_mk_whole _ _ _ _ rfl _)).mono ?_
  rintro e w2 ⟨rfl, rfl⟩
  gi_wp2
  refine range_list (within_seq_whole (some ⟨w.heap.size, 0, none⟩) w.heap.size n n (gr + 1 + 1 + 1 + 1) (by omega) (fun _ => rfl)) rfl (enters_f Tryz.func367 (by kernel_rfl) rfl) (fun v hv => ?_)
    (fun k M A => k ≤ n ∧ ∃ qs ap kp, qs.length = k ∧ Pls w.heap.size w A (gr + 1 + 1 + 1) (gr + 1) wRow qs (fun j => ⟨w.heap.size, j * 2, none⟩) [gr + 1 + 1 + 1 + 1, gr, w.heap.size] ap kp ∧ A.cell? ⟨gr + 1 + 1 + 1 + 1, 0, none⟩ = some (.slice (some ⟨w.heap.size, 0, none⟩) n n) ∧ RowB A w.heap.size gr n ∧ (∀ q ∈ qs, gr < q) ∧ ∀ x, M x ↔ x = gr + 1 + 1 + 1 ∨ (Value.slice ap (k + 1) kp).ownBlock = some x)
    (fun c k A => False) (fun x => x = gr + 1 + 1 + 1 ∨ (Value.slice (some ⟨gr + 1 + 1, 0, none⟩) (0 + 1) 1).ownBlock = some x) ?hI ?hIx ?hC ?h0 ?round ?done ?stop
  case hI =>
    rintro k M A B' ⟨h1, qs, ap, kp, h2, h3, h4, h6, h7, h5⟩ hk
    exact ⟨h1, qs, ap, kp, h2, h3.keep hk (by simp; omega), hk.cell h4, h6.keep hk, h7, h5⟩
  case hIx =>
    rintro c k A B' h _
    exact h.elim
  case hC =>
    rintro k M A ⟨h1, qs, ap, kp, h2, h3, h4, h6, h7, h5⟩
    refine ⟨h4, fun x hx => ?_⟩
    subst h2
    rcases (h5 x).1 hx with e | e
    · rw [e]; exact h3.lt _ (by simp)
    · exact (h3.own.lt x e).2
  case h0 =>
    refine ⟨Nat.zero_le _, [], some ⟨gr + 1 + 1, 0, none⟩, 1, rfl, ?_, ?_, ?_, fun q hq => by simp at hq, fun _ => Iff.rfl⟩
    · have h1 := HPS.out.avoid w.heap.size (by simp; omega) (fun g e => by simp [Value.ownBlock] at e; omega)
      have h2 := h1.avoid gr (by simp; omega) (fun g e => by simp [Value.ownBlock] at e; omega)
      have h3 := h2.alloc_avoid (.cells #[.slice (some ⟨w.heap.size, 0, none⟩) n n] 158)
      simp only [World.size_alloc, hs2] at h3
      exact h3
    · have := (Boxed.new (((W2.alloc (.cells #[.string ⟨#[114, 111, 119]⟩] 9)).alloc (.cells #[.func (.func 364) #[] #[.pointer (some ⟨gr + 1, 0, none⟩)]] 429)).alloc (.cells #[.slice (some ⟨gr + 1 + 1, 0, none⟩) 1 1] 433)) 158 (.slice (some ⟨w.heap.size, 0, none⟩) n n)).cell
      simp only [World.size_alloc, hs2] at this
      exact this
    · exact hRB.keep (B := 0) ((((Keep.alloc 0 W2 _).trans (Keep.alloc 0 _ _)).trans (Keep.alloc 0 _ _)).trans (Keep.alloc 0 _ _))
  case round =>
    rintro l2 k v M A hv ⟨hkn0, qs, ap, kp, hqk, hP, hbt, hRA, hQG, hM⟩
    have hkn : k < n := by
      have := (List.getElem?_eq_some_iff.1 hv).1
      rwa [ptrs_len] at this
    rw [ptrs_get hkn] at hv
    injection hv with hv
    subst hv
    subst hqk
    unfold RoundOK
    gi_wp2
    refine ⟨Wr.refl _ _, fun A2 hk2 => ?_⟩
    have hP2 := hP.keep hk2 (by simp; omega)
    have hbt2 := hk2.cell hbt
    have hRA2 := hRA.keep hk2
    have hsA : A.heap.size ≤ A2.heap.size := hk2.size
    have c6 := hP2.box
    have c7 := (hP2.alloc (.cells #[.pointer (some ⟨w.heap.size, qs.length * 2, none⟩)] 435)).box
    have c8 := ((hP2.alloc (.cells #[.pointer (some ⟨w.heap.size, qs.length * 2, none⟩)] 435)).alloc (.cells #[.func (.func 366) #[] #[.pointer (some ⟨A2.heap.size, 0, none⟩)]] 429)).box
    have HP6 := ((hP2.alloc (.cells #[.pointer (some ⟨w.heap.size, qs.length * 2, none⟩)] 435)).alloc (.cells #[.func (.func 366) #[] #[.pointer (some ⟨A2.heap.size, 0, none⟩)]] 429)).drew
    have HB6 : ((A2.alloc (.cells #[.pointer (some ⟨w.heap.size, qs.length * 2, none⟩)] 435)).alloc (.cells #[.func (.func 366) #[] #[.pointer (some ⟨A2.heap.size, 0, none⟩)]] 429)).drew.cell? ⟨A2.heap.size + 1, 0, none⟩ = some (placeW A2.heap.size) := by
      have := (Boxed.new (A2.alloc (.cells #[.pointer (some ⟨w.heap.size, qs.length * 2, none⟩)] 435)) 429 (placeW A2.heap.size)).cell
      rwa [World.size_alloc] at this
    have HQ6 : ((A2.alloc (.cells #[.pointer (some ⟨w.heap.size, qs.length * 2, none⟩)] 435)).alloc (.cells #[.func (.func 366) #[] #[.pointer (some ⟨A2.heap.size, 0, none⟩)]] 429)).drew.cell? ⟨A2.heap.size, 0, none⟩ = some (.pointer (some ⟨w.heap.size, qs.length * 2, none⟩)) :=
      ((Boxed.new A2 435 (.pointer (some ⟨w.heap.size, qs.length * 2, none⟩))).alloc _).cell
    have HGP : A2.heap.size ≠ gr + 1 + 1 + 1 := by have := hP2.lt (gr + 1 + 1 + 1) (by simp); omega
    have HWB : w.heap.size ≤ A2.heap.size := hP2.bel.size
    have HQS : ∀ g, (Value.slice ap (qs.length + 1) kp).ownBlock = some g → g ≠ A2.heap.size := fun g e => by have := (hP2.own.lt g e).2; omega
    have hql : qs.length ≤ 900 := by omega
    have HQG2 : ∀ q ∈ qs ++ [A2.heap.size], gr < q := by
      intro q hq
      rcases List.mem_append.1 hq with e | e
      · exact hQG q e
      · rw [List.mem_singleton.1 e]; exact hP2.lt gr (by simp)
    have HE6 : Wr M A2 ((A2.alloc (.cells #[.pointer (some ⟨w.heap.size, qs.length * 2, none⟩)] 435)).alloc (.cells #[.func (.func 366) #[] #[.pointer (some ⟨A2.heap.size, 0, none⟩)]] 429)).drew := (Wr.of_below (below2 A2 _ _)).trans (Wr.drew _ _)
    have HT6 : ((A2.alloc (.cells #[.pointer (some ⟨w.heap.size, qs.length * 2, none⟩)] 435)).alloc (.cells #[.func (.func 366) #[] #[.pointer (some ⟨A2.heap.size, 0, none⟩)]] 429)).drew.cell? ⟨gr + 1 + 1 + 1 + 1, 0, none⟩ = some (.slice (some ⟨w.heap.size, 0, none⟩) n n) := ((Keep.alloc 0 A2 _).trans (Keep.alloc 0 _ _)).cell hbt2
    have HR6 : RowB ((A2.alloc (.cells #[.pointer (some ⟨w.heap.size, qs.length * 2, none⟩)] 435)).alloc (.cells #[.func (.func 366) #[] #[.pointer (some ⟨A2.heap.size, 0, none⟩)]] 429)).drew w.heap.size gr n := hRA2.keep (((Keep.alloc 0 A2 _).trans (Keep.alloc 0 _ _)).trans (Keep.drew 0 _))
    have HS6 : A2.heap.size ≤ ((A2.alloc (.cells #[.pointer (some ⟨w.heap.size, qs.length * 2, none⟩)] 435)).alloc (.cells #[.func (.func 366) #[] #[.pointer (some ⟨A2.heap.size, 0, none⟩)]] 429)).drew.heap.size := by simp; omega
    obtain ⟨A6, hA6⟩ : ∃ A6, ((A2.alloc (.cells #[.pointer (some ⟨w.heap.size, qs.length * 2, none⟩)] 435)).alloc (.cells #[.func (.func 366) #[] #[.pointer (some ⟨A2.heap.size, 0, none⟩)]] 429)).drew = A6 := ⟨_, rfl⟩
    have HFIN : Hid (∀ (g cap : Nat) (A4 : World), Pls w.heap.size w (A4.setCell ⟨gr + 1 + 1 + 1, 0, none⟩ (.slice (some ⟨g, 0, none⟩) (qs.length + 1 + 1) cap)) (gr + 1 + 1 + 1) (gr + 1) wRow (qs ++ [A2.heap.size]) (fun j => ⟨w.heap.size, j * 2, none⟩) [gr + 1 + 1 + 1 + 1, gr, w.heap.size] (some ⟨g, 0, none⟩) cap →
        Wr (fun x => x = gr + 1 + 1 + 1 ∨ (Value.slice ap (qs.length + 1) kp).ownBlock = some x) A6 (A4.setCell ⟨gr + 1 + 1 + 1, 0, none⟩ (.slice (some ⟨g, 0, none⟩) (qs.length + 1 + 1) cap)) → ((Value.slice ap (qs.length + 1) kp).ownBlock = some g ∨ A6.heap.size ≤ g) →
        Wr M A2 (A4.setCell ⟨gr + 1 + 1 + 1, 0, none⟩ (.slice (some ⟨g, 0, none⟩) (qs.length + 1 + 1) cap)) ∧ ∃ M' : Nat → Prop, (qs.length + 1 ≤ n ∧ ∃ qs' ap' kp', qs'.length = qs.length + 1 ∧ Pls w.heap.size w (A4.setCell ⟨gr + 1 + 1 + 1, 0, none⟩ (.slice (some ⟨g, 0, none⟩) (qs.length + 1 + 1) cap)) (gr + 1 + 1 + 1) (gr + 1) wRow qs' (fun j => ⟨w.heap.size, j * 2, none⟩) [gr + 1 + 1 + 1 + 1, gr, w.heap.size] ap' kp' ∧
          (A4.setCell ⟨gr + 1 + 1 + 1, 0, none⟩ (.slice (some ⟨g, 0, none⟩) (qs.length + 1 + 1) cap)).cell? ⟨gr + 1 + 1 + 1 + 1, 0, none⟩ = some (.slice (some ⟨w.heap.size, 0, none⟩) n n) ∧ RowB (A4.setCell ⟨gr + 1 + 1 + 1, 0, none⟩ (.slice (some ⟨g, 0, none⟩) (qs.length + 1 + 1) cap)) w.heap.size gr n ∧ (∀ q ∈ qs', gr < q) ∧ ∀ x, M' x ↔ x = gr + 1 + 1 + 1 ∨ (Value.slice ap' (qs.length + 1 + 1) kp').ownBlock = some x) ∧ ∀ x, M' x → M x ∨ A.heap.size ≤ x) := by
      intro g cap A4 hP4 hw4 hat4
      rw [hA6] at HE6 HT6 HS6 HR6
      refine ⟨HE6.trans (hw4.mono fun x hx => (hM x).2 hx), fun x => x = gr + 1 + 1 + 1 ∨ (Value.slice (some ⟨g, 0, none⟩) (qs.length + 1 + 1) cap).ownBlock = some x, ⟨by omega, _, _, _, by simp, hP4, ?_, ?_, HQG2, fun _ => Iff.rfl⟩, fun x hx => ?_⟩
      · refine hw4.cell (p := ⟨gr + 1 + 1 + 1 + 1, 0, none⟩) (fun e => ?_) HT6
        rcases e with e | e
        · simp at e
        · exact hP2.sep _ e (gr + 1 + 1 + 1 + 1) (by simp) rfl
      · refine HR6.wr hw4 (fun e => ?_) (fun e => ?_)
        · rcases e with e | e
          · omega
          · exact hP2.sep _ e w.heap.size (by simp) rfl
        · rcases e with e | e
          · omega
          · exact hP2.sep _ e gr (by simp) rfl
      · rcases hx with e | e
        · exact .inl ((hM x).2 (.inl e))
        · have hxg : x = g := by simpa [Value.ownBlock] using e.symm
          subst hxg
          rcases hat4 with e2 | e2
          · exact .inl ((hM _).2 (.inr e2))
          · exact .inr (by omega)
    rw [← hA6] at HFIN
    clear hA6 HE6 HT6 HS6 HR6 hbt2 hbt hM hP hP2 HD HPS hRA hRA2 hRB g0
    gi_wp2
    refine wpIn_region_any hm ?_
    try (change wpAnyIn _ _ _ _ _ _ _ _ _ (World.drew _))
    refine wpAnyIn_ready (rs := [0, 1]) (by kernel_rfl) (by simp) ?_
    refine AllReadyIn.cons rfl (fun K hK => ?_) ?_
    · go_simp
      refine hK _ _ ?_
      clear hK K
      refine wpAnyIn_ready (rs := [1]) (by kernel_rfl) (by simp) ?_
      refine AllReadyIn.cons rfl (fun K hK => ?_) ?_
      · go_simp
        refine hK _ _ ?_
        clear hK K
        refine wpAnyIn_ready (rs := [2]) (by kernel_rfl) (by simp) ?_
        refine AllReadyIn.cons rfl (fun K hK => ?_) ?_
        · go_simp
          refine (CallsIn.inRound l2 (callsIn_wide.2 (wholeInto_mk _ _))).mono ?_
          rintro e A3 ⟨rfl, rfl⟩
          simp only []
          refine hK _ _ ?_
          clear hK K
          refine wpAnyIn_ready (rs := [3]) (by kernel_rfl) (by simp) ?_
          refine AllReadyIn.cons rfl (fun K hK => ?_) ?_
          · go_simp
            refine hK _ _ ?_
            clear hK K
            refine wpAnyIn_ready (rs := [4]) (by kernel_rfl) (by simp) ?_
            refine AllReadyIn.cons rfl (fun K hK => ?_) ?_
            · refine step_place _ rfl (.tmp 21) (.tmp 24) rfl HP6 hql rfl rfl HB6 HQ6 HWB HGP HQS ?_
              intro g cap A4 hP4 hw4 hat4 d1 d2
              refine hK _ _ ?_
              clear hK K
              refine wpAnyIn_ready (rs := [5]) (by kernel_rfl) (by simp) ?_
              refine AllReadyIn.cons rfl (fun K hK => ?_) ?_
              · go_simp
                refine hK _ _ ?_
                clear hK K
                refine wpAnyIn_done (by kernel_rfl) ?_ _
                gi_wp2
                exact HFIN.out g cap A4 hP4 hw4 hat4
              exact AllReadyIn.nil
            exact AllReadyIn.nil
          exact AllReadyIn.nil
        exact AllReadyIn.nil
      exact AllReadyIn.nil
    refine AllReadyIn.cons rfl (fun K hK => ?_) ?_
    · go_simp
      refine hK _ _ ?_
      clear hK K
      refine wpAnyIn_ready (rs := [0, 2]) (by kernel_rfl) (by simp) ?_
      refine AllReadyIn.cons rfl (fun K hK => ?_) ?_
      · go_simp
        refine hK _ _ ?_
        clear hK K
        refine wpAnyIn_ready (rs := [2]) (by kernel_rfl) (by simp) ?_
        refine AllReadyIn.cons rfl (fun K hK => ?_) ?_
        · go_simp
          refine (CallsIn.inRound l2 (callsIn_wide.2 (wholeInto_mk _ _))).mono ?_
          rintro e A3 ⟨rfl, rfl⟩
          simp only []
          refine hK _ _ ?_
          clear hK K
          refine wpAnyIn_ready (rs := [3]) (by kernel_rfl) (by simp) ?_
          refine AllReadyIn.cons rfl (fun K hK => ?_) ?_
          · go_simp
            refine hK _ _ ?_
            clear hK K
            refine wpAnyIn_ready (rs := [4]) (by kernel_rfl) (by simp) ?_
            refine AllReadyIn.cons rfl (fun K hK => ?_) ?_
            · refine step_place _ rfl (.tmp 21) (.tmp 24) rfl HP6 hql rfl rfl HB6 HQ6 HWB HGP HQS ?_
              intro g cap A4 hP4 hw4 hat4 d1 d2
              refine hK _ _ ?_
              clear hK K
              refine wpAnyIn_ready (rs := [5]) (by kernel_rfl) (by simp) ?_
              refine AllReadyIn.cons rfl (fun K hK => ?_) ?_
              · go_simp
                refine hK _ _ ?_
                clear hK K
                refine wpAnyIn_done (by kernel_rfl) ?_ _
                gi_wp2
                exact HFIN.out g cap A4 hP4 hw4 hat4
              exact AllReadyIn.nil
            exact AllReadyIn.nil
          exact AllReadyIn.nil
        exact AllReadyIn.nil
      refine AllReadyIn.cons rfl (fun K hK => ?_) ?_
      · go_simp
        refine (CallsIn.inRound l2 (callsIn_wide.2 (wholeInto_mk _ _))).mono ?_
        rintro e A3 ⟨rfl, rfl⟩
        simp only []
        refine hK _ _ ?_
        clear hK K
        refine wpAnyIn_ready (rs := [0, 3]) (by kernel_rfl) (by simp) ?_
        refine AllReadyIn.cons rfl (fun K hK => ?_) ?_
        · go_simp
          refine hK _ _ ?_
          clear hK K
          refine wpAnyIn_ready (rs := [3]) (by kernel_rfl) (by simp) ?_
          refine AllReadyIn.cons rfl (fun K hK => ?_) ?_
          · go_simp
            refine hK _ _ ?_
            clear hK K
            refine wpAnyIn_ready (rs := [4]) (by kernel_rfl) (by simp) ?_
            refine AllReadyIn.cons rfl (fun K hK => ?_) ?_
            · refine step_place _ rfl (.tmp 21) (.tmp 24) rfl HP6 hql rfl rfl HB6 HQ6 HWB HGP HQS ?_
              intro g cap A4 hP4 hw4 hat4 d1 d2
              refine hK _ _ ?_
              clear hK K
              refine wpAnyIn_ready (rs := [5]) (by kernel_rfl) (by simp) ?_
              refine AllReadyIn.cons rfl (fun K hK => ?_) ?_
              · go_simp
                refine hK _ _ ?_
                clear hK K
                refine wpAnyIn_done (by kernel_rfl) ?_ _
                gi_wp2
                exact HFIN.out g cap A4 hP4 hw4 hat4
              exact AllReadyIn.nil
            exact AllReadyIn.nil
          exact AllReadyIn.nil
        refine AllReadyIn.cons rfl (fun K hK => ?_) ?_
        · go_simp
          refine hK _ _ ?_
          clear hK K
          refine wpAnyIn_ready (rs := [0]) (by kernel_rfl) (by simp) ?_
          refine AllReadyIn.cons rfl (fun K hK => ?_) ?_
          · go_simp
            refine hK _ _ ?_
            clear hK K
            refine wpAnyIn_ready (rs := [4]) (by kernel_rfl) (by simp) ?_
            refine AllReadyIn.cons rfl (fun K hK => ?_) ?_
            · refine step_place _ rfl (.tmp 21) (.tmp 24) rfl HP6 hql rfl rfl HB6 HQ6 HWB HGP HQS ?_
              intro g cap A4 hP4 hw4 hat4 d1 d2
              refine hK _ _ ?_
              clear hK K
              refine wpAnyIn_ready (rs := [5]) (by kernel_rfl) (by simp) ?_
              refine AllReadyIn.cons rfl (fun K hK => ?_) ?_
              · go_simp
                refine hK _ _ ?_
                clear hK K
                refine wpAnyIn_done (by kernel_rfl) ?_ _
                gi_wp2
                exact HFIN.out g cap A4 hP4 hw4 hat4
              exact AllReadyIn.nil
            exact AllReadyIn.nil
          exact AllReadyIn.nil
        exact AllReadyIn.nil
      exact AllReadyIn.nil
    exact AllReadyIn.nil
  case done =>
    rintro D M A hD ⟨h1, qs, ap, kp, hqk, hP, hbt, hRA, hQG, hM⟩ hd
    rw [ptrs_len] at hqk
    subst hqk
    clear hM hbt HPS g0 hRB
    obtain ⟨ip, hip, hp0, hp1, hp2⟩ := info_parts Tryz.infoPlace
    have k6 := hP.box
    have k7 := (hP.alloc (.cells #[.pointer (some ⟨gr, 0, none⟩)] 440)).box
    have k8 := ((hP.alloc (.cells #[.pointer (some ⟨gr, 0, none⟩)] 440)).alloc (.cells #[.pointer (some ⟨gr, 1, none⟩)] 435)).box
    have k9 := (((hP.alloc (.cells #[.pointer (some ⟨gr, 0, none⟩)] 440)).alloc (.cells #[.pointer (some ⟨gr, 1, none⟩)] 435)).alloc (.cells #[placeR A.heap.size, placeW (A.heap.size + 1)] 429)).box
    have HO6 := ((((hP.alloc (.cells #[.pointer (some ⟨gr, 0, none⟩)] 440)).alloc (.cells #[.pointer (some ⟨gr, 1, none⟩)] 435)).alloc (.cells #[placeR A.heap.size, placeW (A.heap.size + 1)] 429)).drew).own
    have HK6 : Keep w.heap.size A (((A.alloc (.cells #[.pointer (some ⟨gr, 0, none⟩)] 440)).alloc (.cells #[.pointer (some ⟨gr, 1, none⟩)] 435)).alloc (.cells #[placeR A.heap.size, placeW (A.heap.size + 1)] 429)).drew := (((Keep.alloc _ _ _).trans (Keep.alloc _ _ _)).trans (Keep.alloc _ _ _)).trans (Keep.drew _ _)
    have HS6 : (((A.alloc (.cells #[.pointer (some ⟨gr, 0, none⟩)] 440)).alloc (.cells #[.pointer (some ⟨gr, 1, none⟩)] 435)).alloc (.cells #[placeR A.heap.size, placeW (A.heap.size + 1)] 429)).drew.heap.size = A.heap.size + 1 + 1 + 1 := by simp
    obtain ⟨t0, t1, t2, _⟩ := quad_heap A (.cells #[.pointer (some ⟨gr, 0, none⟩)] 440) (.cells #[.pointer (some ⟨gr, 1, none⟩)] 435) (.cells #[placeR A.heap.size, placeW (A.heap.size + 1)] 429) (.cells #[] 429)
    rw [Below.heap_alloc _ _ _ (by simp <;> omega)] at t0 t1 t2
    have HC1 : (((A.alloc (.cells #[.pointer (some ⟨gr, 0, none⟩)] 440)).alloc (.cells #[.pointer (some ⟨gr, 1, none⟩)] 435)).alloc (.cells #[placeR A.heap.size, placeW (A.heap.size + 1)] 429)).drew.cell? ⟨A.heap.size, 0, none⟩ = some (.pointer (some ⟨gr, 0, none⟩)) := cell_of_row _ _ _ _ _ _ t0
    have HC2 : (((A.alloc (.cells #[.pointer (some ⟨gr, 0, none⟩)] 440)).alloc (.cells #[.pointer (some ⟨gr, 1, none⟩)] 435)).alloc (.cells #[placeR A.heap.size, placeW (A.heap.size + 1)] 429)).drew.cell? ⟨A.heap.size + 1, 0, none⟩ = some (.pointer (some ⟨gr, 1, none⟩)) := cell_of_row _ _ _ _ _ _ t1
    have HN6 : ∀ (j : Nat) (u : Value), [placeR A.heap.size, placeW (A.heap.size + 1)][j]? = some u → (((A.alloc (.cells #[.pointer (some ⟨gr, 0, none⟩)] 440)).alloc (.cells #[.pointer (some ⟨gr, 1, none⟩)] 435)).alloc (.cells #[placeR A.heap.size, placeW (A.heap.size + 1)] 429)).drew.cell? ((⟨A.heap.size + 1 + 1, 0, none⟩ : Addr).add j) = some u :=
      World.news_of_block (cs := #[placeR A.heap.size, placeW (A.heap.size + 1)]) t2
    have H16 : ∀ u ∈ [placeR A.heap.size, placeW (A.heap.size + 1)], u.oneCell' = true := by
      intro u hu
      simp only [List.mem_cons, List.not_mem_nil, or_false] at hu
      rcases hu with rfl | rfl <;> rfl
    have HWA : w.heap.size ≤ A.heap.size := hP.bel.size
    have HAL : gr < A.heap.size := hP.lt gr (by simp)
    have hDg : gr + 1 + 1 + 1 + 1 < D := by simp [hs2] at hD; omega
    have HD3 : (((A.alloc (.cells #[.pointer (some ⟨gr, 0, none⟩)] 440)).alloc (.cells #[.pointer (some ⟨gr, 1, none⟩)] 435)).alloc (.cells #[placeR A.heap.size, placeW (A.heap.size + 1)] 429)).drew.heap[D]? = some (.deferred (some [])) := ((below3 A _ _ _).block D (lt_of_block hd)).trans hd
    obtain ⟨ir, hir, hr0, hr1, hr2⟩ := info_parts Tryz.infoRow
    clear t0 t1 t2
    simp only [placeR, placeW] at k9
    gi_wp2
    refine wpIn_calm2 ?_
    refine wpIn_region_any hm ?_
    try (change wpAnyIn _ _ _ _ _ _ _ _ _ (World.drew _))
    refine wpAnyIn_take (i := 1) (v := .pointer (some ⟨gr, 0, none⟩)) rfl rfl (by kernel_rfl) (by kernel_rfl) (by kernel_rfl) (fun _ _ _ h => h) ⟨Or.inl ⟨by rfl, ?_⟩, fun _ => rfl⟩ ?_
    · intro w
      go_simp
    refine wpAnyIn_take (i := 3) (v := .pointer (some ⟨gr, 1, none⟩)) rfl rfl (by kernel_rfl) (by kernel_rfl) (by kernel_rfl) (fun _ _ _ h => h) ⟨Or.inl ⟨by rfl, ?_⟩, fun _ => rfl⟩ ?_
    · intro w
      go_simp
    refine wpAnyIn_ready (rs := [0, 2]) (by kernel_rfl) (by simp) ?_
    refine AllReadyIn.cons rfl (fun K hK => ?_) ?_
    · go_simp
      refine hK _ _ ?_
      clear hK K
      refine wpAnyIn_ready (rs := [2]) (by kernel_rfl) (by simp) ?_
      refine AllReadyIn.cons rfl (fun K hK => ?_) ?_
      · go_simp
        refine (callsIn_wide.2 (relationInto_mk _ _)).mono ?_
        rintro e A3 ⟨rfl, rfl⟩
        simp only []
        refine hK _ _ ?_
        clear hK K
        refine wpAnyIn_ready (rs := [4]) (by kernel_rfl) (by simp) ?_
        refine AllReadyIn.cons rfl (fun K hK => ?_) ?_
        · go_simp
          refine (callsIn_wide.2 (wholeInto_mk _ _)).mono ?_
          rintro e A3 ⟨rfl, rfl⟩
          simp only []
          refine hK _ _ ?_
          clear hK K
          refine wpAnyIn_ready (rs := [5]) (by kernel_rfl) (by simp) ?_
          refine AllReadyIn.cons rfl (fun K hK => ?_) ?_
          · go_simp
            refine hK _ _ ?_
            clear hK K
            refine wpAnyIn_ready (rs := [6]) (by kernel_rfl) (by simp) ?_
            refine AllReadyIn.cons rfl (fun K hK => ?_) ?_
            · refine step_append_round _ rfl (.tmp 26) (.tmp 31) 433 rfl w.heap.size 429 ip .nilFunc 1 8 Tryz.underlying433 hip hp0 hp1 hp2 rfl (by decide) _ _ _ rfl HO6 ⟨A.heap.size + 1 + 1, 0, none⟩ 2 2 [placeR A.heap.size, placeW (A.heap.size + 1)] rfl rfl HN6 H16 (by omega) (by unfold maxLen; omega) (by omega) (by simp; omega) _ rfl ?_
              intro g cap A4 hown4 hg4 hat4 hlt4
              obtain ⟨d1, d2, HX⟩ := two_places hP HK6 HS6 HC1 HC2 hown4 hg4 hat4
              refine hK _ _ ?_
              clear hK K hown4 hg4 hat4
              refine wpAnyIn_ready (rs := [7]) (by kernel_rfl) (by simp) ?_
              refine AllReadyIn.cons rfl (fun K hK => ?_) ?_
              · go_simp
                refine hK _ _ ?_
                clear hK K
                refine wpAnyIn_done (by kernel_rfl) ?_ _
                have x3 := HX.out.2.2.2.1
                have HR := hide (row_read s hs (D := D) HD.out (by omega) hgrl ⟨by omega, by omega⟩ ⟨by omega, by omega⟩ hP hQG hRA HK6 HAL HD3 (by omega) (by omega) HX.out)
                clear HX d1 d2 hlt4 HD3 HC1 HC2 HN6 HO6 HK6 HS6 k6 k7 k8 k9 hP hRA
                simp only []
                gi_wp2
                refine (callsIn_wide.2 HR.out).mono ?_
                rintro e A5 ⟨rfl, hb5, hd5, hg5, hrow5⟩
                clear HR x3
                by_cases hr : rowB qs.length (words s) = true
                · obtain ⟨sr, x, ao, l, c, r0, r1, r2, r3, hri⟩ := hrow5 hr
                  clear hrow5
                  rw [hr]
                  have HRI := hide hri
                  clear hri
                  have hD5 := HD.out.below hb5
                  obtain ⟨e0, e1, e2, e3, e4⟩ := hD5.box
                  obtain ⟨rs, hrl, hrown, hrs⟩ := hD5.rows
                  have HRS := hide hrs
                  have HRL := hide hrl
                  have hrs6 : rs.length ≤ 6 := by omega
                  clear hrl
                  have HNR := hide (fun g hg => (hD5.nodR g hg).1)
                  have hne : ∀ g, vR.ownBlock = some g → g ≠ gp := fun g hg => (hD5.nodR g hg).2.1
                  clear hrs hD5
                  have HOW := hrown.alloc (.cells #[.string sr, .bool x, .slice ao l c, .slice (some ⟨w.heap.size, 0, none⟩) qs.length qs.length] 160)
                  have HNW : ∀ (j : Nat) (u : Value), (RowV.cells ⟨sr, x, (ao, l, c), w.heap.size, qs.length⟩)[j]? = some u → (A5.alloc (.cells #[.string sr, .bool x, .slice ao l c, .slice (some ⟨w.heap.size, 0, none⟩) qs.length qs.length] 160)).drew.cell? ((⟨A5.heap.size, 0, none⟩ : Addr).add j) = some u :=
                    World.news_of_block (cs := #[.string sr, .bool x, .slice ao l c, .slice (some ⟨w.heap.size, 0, none⟩) qs.length qs.length]) (World.alloc_heap_new A5 _)
                  have HO1 : ∀ u ∈ RowV.cells ⟨sr, x, (ao, l, c), w.heap.size, qs.length⟩, u.oneCell' = true := by
                    intro u hu
                    simp only [RowV.cells, List.mem_cons, List.not_mem_nil, or_false] at hu
                    rcases hu with rfl | rfl | rfl | rfl <;> rfl
                  have HNN : ∀ u ∈ RowV.cells ⟨sr, x, (ao, l, c), w.heap.size, qs.length⟩, NotDig u := by
                    intro u hu
                    simp only [RowV.cells, List.mem_cons, List.not_mem_nil, or_false] at hu
                    intro n e
                    rcases hu with rfl | rfl | rfl | rfl <;> cases e
                  have HZN : ∀ u ∈ (Value.agg #[.string ⟨#[]⟩, .bool false, .slice none 0 0, .slice none 0 0]).cells.toList, NotDig u := by
                    intro u hu
                    have hu2 : u ∈ [Value.string ⟨#[]⟩, .bool false, .slice none 0 0, .slice none 0 0] := hu
                    simp only [List.mem_cons, List.not_mem_nil, or_false] at hu2
                    intro n e
                    rcases hu2 with rfl | rfl | rfl | rfl <;> cases e
                  have HVN : ∀ g, vR.ownBlock = some g → NoDig (A5.alloc (.cells #[.string sr, .bool x, .slice ao l c, .slice (some ⟨w.heap.size, 0, none⟩) qs.length qs.length] 160)).drew g := fun g hg => (HNR.out g hg).keep (B := 0) ((Keep.alloc _ _ _).trans (Keep.drew _ _))
                  have HGX : some gp ≠ vR.ownBlock := fun e => hne gp e.symm rfl
                  have e1x : (A5.alloc (.cells #[.string sr, .bool x, .slice ao l c, .slice (some ⟨w.heap.size, 0, none⟩) qs.length qs.length] 160)).drew.cell? ⟨gp, 1, none⟩ = some vR := (Keep.alloc 0 A5 _).cell e1
                  have e3x : (A5.alloc (.cells #[.string sr, .bool x, .slice ao l c, .slice (some ⟨w.heap.size, 0, none⟩) qs.length qs.length] 160)).drew.frozen? ⟨gp, 1, none⟩ = false := ((Keep.alloc 0 A5 _).frozen e1).trans e3
                  have hgl5 : gp < (A5.alloc (.cells #[.string sr, .bool x, .slice ao l c, .slice (some ⟨w.heap.size, 0, none⟩) qs.length qs.length] 160)).drew.heap.size := by simp; omega
                  gi_wp2
                  refine wpIn_calm2 ?_
                  refine wpIn_wide.2 ?_
                  go_region_law (refine step_append_dig _ rfl (.tmp 41) (.tmp 43) 107 rfl 0 160 ir _ 4 72 Tryz.underlying107 hir hr0 hr1 hr2 rfl (by decide) vR rs.length (rowCells rs) rfl HOW ⟨A5.heap.size, 0, none⟩ 1 1 (RowV.cells ⟨sr, x, (ao, l, c), w.heap.size, qs.length⟩) rfl rfl HNW HO1 (by omega) (by unfold maxLen; omega) (by omega) (Nat.zero_le _) _ rfl HZN HNN HVN ?_; intro g6 cap6 A6 hown6 hg6 hat6 hlt6 hnd6; have q1 := (hg6.cell_far ⟨gp, 1, none⟩ hgl5 HGX).trans e1x; have q3 := (hg6.frozen_far ⟨gp, 1, none⟩ hgl5 HGX).trans e3x)
                  all_goals simp only []
                  all_goals gi_wp2
                  all_goals obtain ⟨z1, z2, z3, z4⟩ := row_kept HD.out hb5 _ hd5 (by omega) HRL.out HRS.out HRI.out hown6 hg6 hat6 hnd6
                  all_goals refine leave_mark z3 ?_
                  all_goals exact ⟨.bool true, by simp [results, Tryz.results241, go_sem], by rw [hr], z1.keep (Keep.putObj (.deferred none) (by omega) z3 rfl), fun _ => ⟨_, by have z5 := z2.keep (B := w.heap.size) (Keep.putObj (.deferred none) (by omega) z3 rfl); rw [hnn] at z5; exact z5, z4⟩⟩
                · have hrf : rowB qs.length (words s) = false := by simpa using hr
                  rw [hrf]
                  clear hrow5
                  gi_wp2
                  refine leave_mark hd5 ?_
                  have hkp : Keep w.heap.size A5 (A5.putObj D (.deferred none)) := Keep.putObj (.deferred none) (by omega) hd5 rfl
                  exact ⟨.bool false, by simp [results, Tryz.results241, go_sem], by rw [hrf], (Wr.of_below hb5).keep hkp, fun h => by rw [hrf] at h; cases h⟩
              exact AllReadyIn.nil
            exact AllReadyIn.nil
          exact AllReadyIn.nil
        exact AllReadyIn.nil
      exact AllReadyIn.nil
    refine AllReadyIn.cons rfl (fun K hK => ?_) ?_
    · go_simp
      refine (callsIn_wide.2 (relationInto_mk _ _)).mono ?_
      rintro e A3 ⟨rfl, rfl⟩
      simp only []
      refine hK _ _ ?_
      clear hK K
      refine wpAnyIn_ready (rs := [0, 4]) (by kernel_rfl) (by simp) ?_
      refine AllReadyIn.cons rfl (fun K hK => ?_) ?_
      · go_simp
        refine hK _ _ ?_
        clear hK K
        refine wpAnyIn_ready (rs := [4]) (by kernel_rfl) (by simp) ?_
        refine AllReadyIn.cons rfl (fun K hK => ?_) ?_
        · go_simp
          refine (callsIn_wide.2 (wholeInto_mk _ _)).mono ?_
          rintro e A3 ⟨rfl, rfl⟩
          simp only []
          refine hK _ _ ?_
          clear hK K
          refine wpAnyIn_ready (rs := [5]) (by kernel_rfl) (by simp) ?_
          refine AllReadyIn.cons rfl (fun K hK => ?_) ?_
          · go_simp
            refine hK _ _ ?_
            clear hK K
            refine wpAnyIn_ready (rs := [6]) (by kernel_rfl) (by simp) ?_
            refine AllReadyIn.cons rfl (fun K hK => ?_) ?_
            · refine step_append_round _ rfl (.tmp 26) (.tmp 31) 433 rfl w.heap.size 429 ip .nilFunc 1 8 Tryz.underlying433 hip hp0 hp1 hp2 rfl (by decide) _ _ _ rfl HO6 ⟨A.heap.size + 1 + 1, 0, none⟩ 2 2 [placeR A.heap.size, placeW (A.heap.size + 1)] rfl rfl HN6 H16 (by omega) (by unfold maxLen; omega) (by omega) (by simp; omega) _ rfl ?_
              intro g cap A4 hown4 hg4 hat4 hlt4
              obtain ⟨d1, d2, HX⟩ := two_places hP HK6 HS6 HC1 HC2 hown4 hg4 hat4
              refine hK _ _ ?_
              clear hK K hown4 hg4 hat4
              refine wpAnyIn_ready (rs := [7]) (by kernel_rfl) (by simp) ?_
              refine AllReadyIn.cons rfl (fun K hK => ?_) ?_
              · go_simp
                refine hK _ _ ?_
                clear hK K
                refine wpAnyIn_done (by kernel_rfl) ?_ _
                have x3 := HX.out.2.2.2.1
                have HR := hide (row_read s hs (D := D) HD.out (by omega) hgrl ⟨by omega, by omega⟩ ⟨by omega, by omega⟩ hP hQG hRA HK6 HAL HD3 (by omega) (by omega) HX.out)
                clear HX d1 d2 hlt4 HD3 HC1 HC2 HN6 HO6 HK6 HS6 k6 k7 k8 k9 hP hRA
                simp only []
                gi_wp2
                refine (callsIn_wide.2 HR.out).mono ?_
                rintro e A5 ⟨rfl, hb5, hd5, hg5, hrow5⟩
                clear HR x3
                by_cases hr : rowB qs.length (words s) = true
                · obtain ⟨sr, x, ao, l, c, r0, r1, r2, r3, hri⟩ := hrow5 hr
                  clear hrow5
                  rw [hr]
                  have HRI := hide hri
                  clear hri
                  have hD5 := HD.out.below hb5
                  obtain ⟨e0, e1, e2, e3, e4⟩ := hD5.box
                  obtain ⟨rs, hrl, hrown, hrs⟩ := hD5.rows
                  have HRS := hide hrs
                  have HRL := hide hrl
                  have hrs6 : rs.length ≤ 6 := by omega
                  clear hrl
                  have HNR := hide (fun g hg => (hD5.nodR g hg).1)
                  have hne : ∀ g, vR.ownBlock = some g → g ≠ gp := fun g hg => (hD5.nodR g hg).2.1
                  clear hrs hD5
                  have HOW := hrown.alloc (.cells #[.string sr, .bool x, .slice ao l c, .slice (some ⟨w.heap.size, 0, none⟩) qs.length qs.length] 160)
                  have HNW : ∀ (j : Nat) (u : Value), (RowV.cells ⟨sr, x, (ao, l, c), w.heap.size, qs.length⟩)[j]? = some u → (A5.alloc (.cells #[.string sr, .bool x, .slice ao l c, .slice (some ⟨w.heap.size, 0, none⟩) qs.length qs.length] 160)).drew.cell? ((⟨A5.heap.size, 0, none⟩ : Addr).add j) = some u :=
                    World.news_of_block (cs := #[.string sr, .bool x, .slice ao l c, .slice (some ⟨w.heap.size, 0, none⟩) qs.length qs.length]) (World.alloc_heap_new A5 _)
                  have HO1 : ∀ u ∈ RowV.cells ⟨sr, x, (ao, l, c), w.heap.size, qs.length⟩, u.oneCell' = true := by
                    intro u hu
                    simp only [RowV.cells, List.mem_cons, List.not_mem_nil, or_false] at hu
                    rcases hu with rfl | rfl | rfl | rfl <;> rfl
                  have HNN : ∀ u ∈ RowV.cells ⟨sr, x, (ao, l, c), w.heap.size, qs.length⟩, NotDig u := by
                    intro u hu
                    simp only [RowV.cells, List.mem_cons, List.not_mem_nil, or_false] at hu
                    intro n e
                    rcases hu with rfl | rfl | rfl | rfl <;> cases e
                  have HZN : ∀ u ∈ (Value.agg #[.string ⟨#[]⟩, .bool false, .slice none 0 0, .slice none 0 0]).cells.toList, NotDig u := by
                    intro u hu
                    have hu2 : u ∈ [Value.string ⟨#[]⟩, .bool false, .slice none 0 0, .slice none 0 0] := hu
                    simp only [List.mem_cons, List.not_mem_nil, or_false] at hu2
                    intro n e
                    rcases hu2 with rfl | rfl | rfl | rfl <;> cases e
                  have HVN : ∀ g, vR.ownBlock = some g → NoDig (A5.alloc (.cells #[.string sr, .bool x, .slice ao l c, .slice (some ⟨w.heap.size, 0, none⟩) qs.length qs.length] 160)).drew g := fun g hg => (HNR.out g hg).keep (B := 0) ((Keep.alloc _ _ _).trans (Keep.drew _ _))
                  have HGX : some gp ≠ vR.ownBlock := fun e => hne gp e.symm rfl
                  have e1x : (A5.alloc (.cells #[.string sr, .bool x, .slice ao l c, .slice (some ⟨w.heap.size, 0, none⟩) qs.length qs.length] 160)).drew.cell? ⟨gp, 1, none⟩ = some vR := (Keep.alloc 0 A5 _).cell e1
                  have e3x : (A5.alloc (.cells #[.string sr, .bool x, .slice ao l c, .slice (some ⟨w.heap.size, 0, none⟩) qs.length qs.length] 160)).drew.frozen? ⟨gp, 1, none⟩ = false := ((Keep.alloc 0 A5 _).frozen e1).trans e3
                  have hgl5 : gp < (A5.alloc (.cells #[.string sr, .bool x, .slice ao l c, .slice (some ⟨w.heap.size, 0, none⟩) qs.length qs.length] 160)).drew.heap.size := by simp; omega
                  gi_wp2
                  refine wpIn_calm2 ?_
                  refine wpIn_wide.2 ?_
                  go_region_law (refine step_append_dig _ rfl (.tmp 41) (.tmp 43) 107 rfl 0 160 ir _ 4 72 Tryz.underlying107 hir hr0 hr1 hr2 rfl (by decide) vR rs.length (rowCells rs) rfl HOW ⟨A5.heap.size, 0, none⟩ 1 1 (RowV.cells ⟨sr, x, (ao, l, c), w.heap.size, qs.length⟩) rfl rfl HNW HO1 (by omega) (by unfold maxLen; omega) (by omega) (Nat.zero_le _) _ rfl HZN HNN HVN ?_; intro g6 cap6 A6 hown6 hg6 hat6 hlt6 hnd6; have q1 := (hg6.cell_far ⟨gp, 1, none⟩ hgl5 HGX).trans e1x; have q3 := (hg6.frozen_far ⟨gp, 1, none⟩ hgl5 HGX).trans e3x)
                  all_goals simp only []
                  all_goals gi_wp2
                  all_goals obtain ⟨z1, z2, z3, z4⟩ := row_kept HD.out hb5 _ hd5 (by omega) HRL.out HRS.out HRI.out hown6 hg6 hat6 hnd6
                  all_goals refine leave_mark z3 ?_
                  all_goals exact ⟨.bool true, by simp [results, Tryz.results241, go_sem], by rw [hr], z1.keep (Keep.putObj (.deferred none) (by omega) z3 rfl), fun _ => ⟨_, by have z5 := z2.keep (B := w.heap.size) (Keep.putObj (.deferred none) (by omega) z3 rfl); rw [hnn] at z5; exact z5, z4⟩⟩
                · have hrf : rowB qs.length (words s) = false := by simpa using hr
                  rw [hrf]
                  clear hrow5
                  gi_wp2
                  refine leave_mark hd5 ?_
                  have hkp : Keep w.heap.size A5 (A5.putObj D (.deferred none)) := Keep.putObj (.deferred none) (by omega) hd5 rfl
                  exact ⟨.bool false, by simp [results, Tryz.results241, go_sem], by rw [hrf], (Wr.of_below hb5).keep hkp, fun h => by rw [hrf] at h; cases h⟩
              exact AllReadyIn.nil
            exact AllReadyIn.nil
          exact AllReadyIn.nil
        exact AllReadyIn.nil
      refine AllReadyIn.cons rfl (fun K hK => ?_) ?_
      · go_simp
        refine (callsIn_wide.2 (wholeInto_mk _ _)).mono ?_
        rintro e A3 ⟨rfl, rfl⟩
        simp only []
        refine hK _ _ ?_
        clear hK K
        refine wpAnyIn_ready (rs := [0, 5]) (by kernel_rfl) (by simp) ?_
        refine AllReadyIn.cons rfl (fun K hK => ?_) ?_
        · go_simp
          refine hK _ _ ?_
          clear hK K
          refine wpAnyIn_ready (rs := [5]) (by kernel_rfl) (by simp) ?_
          refine AllReadyIn.cons rfl (fun K hK => ?_) ?_
          · go_simp
            refine hK _ _ ?_
            clear hK K
            refine wpAnyIn_ready (rs := [6]) (by kernel_rfl) (by simp) ?_
            refine AllReadyIn.cons rfl (fun K hK => ?_) ?_
            · refine step_append_round _ rfl (.tmp 26) (.tmp 31) 433 rfl w.heap.size 429 ip .nilFunc 1 8 Tryz.underlying433 hip hp0 hp1 hp2 rfl (by decide) _ _ _ rfl HO6 ⟨A.heap.size + 1 + 1, 0, none⟩ 2 2 [placeR A.heap.size, placeW (A.heap.size + 1)] rfl rfl HN6 H16 (by omega) (by unfold maxLen; omega) (by omega) (by simp; omega) _ rfl ?_
              intro g cap A4 hown4 hg4 hat4 hlt4
              obtain ⟨d1, d2, HX⟩ := two_places hP HK6 HS6 HC1 HC2 hown4 hg4 hat4
              refine hK _ _ ?_
              clear hK K hown4 hg4 hat4
              refine wpAnyIn_ready (rs := [7]) (by kernel_rfl) (by simp) ?_
              refine AllReadyIn.cons rfl (fun K hK => ?_) ?_
              · go_simp
                refine hK _ _ ?_
                clear hK K
                refine wpAnyIn_done (by kernel_rfl) ?_ _
                have x3 := HX.out.2.2.2.1
                have HR := hide (row_read s hs (D := D) HD.out (by omega) hgrl ⟨by omega, by omega⟩ ⟨by omega, by omega⟩ hP hQG hRA HK6 HAL HD3 (by omega) (by omega) HX.out)
                clear HX d1 d2 hlt4 HD3 HC1 HC2 HN6 HO6 HK6 HS6 k6 k7 k8 k9 hP hRA
                simp only []
                gi_wp2
                refine (callsIn_wide.2 HR.out).mono ?_
                rintro e A5 ⟨rfl, hb5, hd5, hg5, hrow5⟩
                clear HR x3
                by_cases hr : rowB qs.length (words s) = true
                · obtain ⟨sr, x, ao, l, c, r0, r1, r2, r3, hri⟩ := hrow5 hr
                  clear hrow5
                  rw [hr]
                  have HRI := hide hri
                  clear hri
                  have hD5 := HD.out.below hb5
                  obtain ⟨e0, e1, e2, e3, e4⟩ := hD5.box
                  obtain ⟨rs, hrl, hrown, hrs⟩ := hD5.rows
                  have HRS := hide hrs
                  have HRL := hide hrl
                  have hrs6 : rs.length ≤ 6 := by omega
                  clear hrl
                  have HNR := hide (fun g hg => (hD5.nodR g hg).1)
                  have hne : ∀ g, vR.ownBlock = some g → g ≠ gp := fun g hg => (hD5.nodR g hg).2.1
                  clear hrs hD5
                  have HOW := hrown.alloc (.cells #[.string sr, .bool x, .slice ao l c, .slice (some ⟨w.heap.size, 0, none⟩) qs.length qs.length] 160)
                  have HNW : ∀ (j : Nat) (u : Value), (RowV.cells ⟨sr, x, (ao, l, c), w.heap.size, qs.length⟩)[j]? = some u → (A5.alloc (.cells #[.string sr, .bool x, .slice ao l c, .slice (some ⟨w.heap.size, 0, none⟩) qs.length qs.length] 160)).drew.cell? ((⟨A5.heap.size, 0, none⟩ : Addr).add j) = some u :=
                    World.news_of_block (cs := #[.string sr, .bool x, .slice ao l c, .slice (some ⟨w.heap.size, 0, none⟩) qs.length qs.length]) (World.alloc_heap_new A5 _)
                  have HO1 : ∀ u ∈ RowV.cells ⟨sr, x, (ao, l, c), w.heap.size, qs.length⟩, u.oneCell' = true := by
                    intro u hu
                    simp only [RowV.cells, List.mem_cons, List.not_mem_nil, or_false] at hu
                    rcases hu with rfl | rfl | rfl | rfl <;> rfl
                  have HNN : ∀ u ∈ RowV.cells ⟨sr, x, (ao, l, c), w.heap.size, qs.length⟩, NotDig u := by
                    intro u hu
                    simp only [RowV.cells, List.mem_cons, List.not_mem_nil, or_false] at hu
                    intro n e
                    rcases hu with rfl | rfl | rfl | rfl <;> cases e
                  have HZN : ∀ u ∈ (Value.agg #[.string ⟨#[]⟩, .bool false, .slice none 0 0, .slice none 0 0]).cells.toList, NotDig u := by
                    intro u hu
                    have hu2 : u ∈ [Value.string ⟨#[]⟩, .bool false, .slice none 0 0, .slice none 0 0] := hu
                    simp only [List.mem_cons, List.not_mem_nil, or_false] at hu2
                    intro n e
                    rcases hu2 with rfl | rfl | rfl | rfl <;> cases e
                  have HVN : ∀ g, vR.ownBlock = some g → NoDig (A5.alloc (.cells #[.string sr, .bool x, .slice ao l c, .slice (some ⟨w.heap.size, 0, none⟩) qs.length qs.length] 160)).drew g := fun g hg => (HNR.out g hg).keep (B := 0) ((Keep.alloc _ _ _).trans (Keep.drew _ _))
                  have HGX : some gp ≠ vR.ownBlock := fun e => hne gp e.symm rfl
                  have e1x : (A5.alloc (.cells #[.string sr, .bool x, .slice ao l c, .slice (some ⟨w.heap.size, 0, none⟩) qs.length qs.length] 160)).drew.cell? ⟨gp, 1, none⟩ = some vR := (Keep.alloc 0 A5 _).cell e1
                  have e3x : (A5.alloc (.cells #[.string sr, .bool x, .slice ao l c, .slice (some ⟨w.heap.size, 0, none⟩) qs.length qs.length] 160)).drew.frozen? ⟨gp, 1, none⟩ = false := ((Keep.alloc 0 A5 _).frozen e1).trans e3
                  have hgl5 : gp < (A5.alloc (.cells #[.string sr, .bool x, .slice ao l c, .slice (some ⟨w.heap.size, 0, none⟩) qs.length qs.length] 160)).drew.heap.size := by simp; omega
                  gi_wp2
                  refine wpIn_calm2 ?_
                  refine wpIn_wide.2 ?_
                  go_region_law (refine step_append_dig _ rfl (.tmp 41) (.tmp 43) 107 rfl 0 160 ir _ 4 72 Tryz.underlying107 hir hr0 hr1 hr2 rfl (by decide) vR rs.length (rowCells rs) rfl HOW ⟨A5.heap.size, 0, none⟩ 1 1 (RowV.cells ⟨sr, x, (ao, l, c), w.heap.size, qs.length⟩) rfl rfl HNW HO1 (by omega) (by unfold maxLen; omega) (by omega) (Nat.zero_le _) _ rfl HZN HNN HVN ?_; intro g6 cap6 A6 hown6 hg6 hat6 hlt6 hnd6; have q1 := (hg6.cell_far ⟨gp, 1, none⟩ hgl5 HGX).trans e1x; have q3 := (hg6.frozen_far ⟨gp, 1, none⟩ hgl5 HGX).trans e3x)
                  all_goals simp only []
                  all_goals gi_wp2
                  all_goals obtain ⟨z1, z2, z3, z4⟩ := row_kept HD.out hb5 _ hd5 (by omega) HRL.out HRS.out HRI.out hown6 hg6 hat6 hnd6
                  all_goals refine leave_mark z3 ?_
                  all_goals exact ⟨.bool true, by simp [results, Tryz.results241, go_sem], by rw [hr], z1.keep (Keep.putObj (.deferred none) (by omega) z3 rfl), fun _ => ⟨_, by have z5 := z2.keep (B := w.heap.size) (Keep.putObj (.deferred none) (by omega) z3 rfl); rw [hnn] at z5; exact z5, z4⟩⟩
                · have hrf : rowB qs.length (words s) = false := by simpa using hr
                  rw [hrf]
                  clear hrow5
                  gi_wp2
                  refine leave_mark hd5 ?_
                  have hkp : Keep w.heap.size A5 (A5.putObj D (.deferred none)) := Keep.putObj (.deferred none) (by omega) hd5 rfl
                  exact ⟨.bool false, by simp [results, Tryz.results241, go_sem], by rw [hrf], (Wr.of_below hb5).keep hkp, fun h => by rw [hrf] at h; cases h⟩
              exact AllReadyIn.nil
            exact AllReadyIn.nil
          exact AllReadyIn.nil
        refine AllReadyIn.cons rfl (fun K hK => ?_) ?_
        · go_simp
          refine hK _ _ ?_
          clear hK K
          refine wpAnyIn_ready (rs := [0]) (by kernel_rfl) (by simp) ?_
          refine AllReadyIn.cons rfl (fun K hK => ?_) ?_
          · go_simp
            refine hK _ _ ?_
            clear hK K
            refine wpAnyIn_ready (rs := [6]) (by kernel_rfl) (by simp) ?_
            refine AllReadyIn.cons rfl (fun K hK => ?_) ?_
            · refine step_append_round _ rfl (.tmp 26) (.tmp 31) 433 rfl w.heap.size 429 ip .nilFunc 1 8 Tryz.underlying433 hip hp0 hp1 hp2 rfl (by decide) _ _ _ rfl HO6 ⟨A.heap.size + 1 + 1, 0, none⟩ 2 2 [placeR A.heap.size, placeW (A.heap.size + 1)] rfl rfl HN6 H16 (by omega) (by unfold maxLen; omega) (by omega) (by simp; omega) _ rfl ?_
              intro g cap A4 hown4 hg4 hat4 hlt4
              obtain ⟨d1, d2, HX⟩ := two_places hP HK6 HS6 HC1 HC2 hown4 hg4 hat4
              refine hK _ _ ?_
              clear hK K hown4 hg4 hat4
              refine wpAnyIn_ready (rs := [7]) (by kernel_rfl) (by simp) ?_
              refine AllReadyIn.cons rfl (fun K hK => ?_) ?_
              · go_simp
                refine hK _ _ ?_
                clear hK K
                refine wpAnyIn_done (by kernel_rfl) ?_ _
                have x3 := HX.out.2.2.2.1
                have HR := hide (row_read s hs (D := D) HD.out (by omega) hgrl ⟨by omega, by omega⟩ ⟨by omega, by omega⟩ hP hQG hRA HK6 HAL HD3 (by omega) (by omega) HX.out)
                clear HX d1 d2 hlt4 HD3 HC1 HC2 HN6 HO6 HK6 HS6 k6 k7 k8 k9 hP hRA
                simp only []
                gi_wp2
                refine (callsIn_wide.2 HR.out).mono ?_
                rintro e A5 ⟨rfl, hb5, hd5, hg5, hrow5⟩
                clear HR x3
                by_cases hr : rowB qs.length (words s) = true
                · obtain ⟨sr, x, ao, l, c, r0, r1, r2, r3, hri⟩ := hrow5 hr
                  clear hrow5
                  rw [hr]
                  have HRI := hide hri
                  clear hri
                  have hD5 := HD.out.below hb5
                  obtain ⟨e0, e1, e2, e3, e4⟩ := hD5.box
                  obtain ⟨rs, hrl, hrown, hrs⟩ := hD5.rows
                  have HRS := hide hrs
                  have HRL := hide hrl
                  have hrs6 : rs.length ≤ 6 := by omega
                  clear hrl
                  have HNR := hide (fun g hg => (hD5.nodR g hg).1)
                  have hne : ∀ g, vR.ownBlock = some g → g ≠ gp := fun g hg => (hD5.nodR g hg).2.1
                  clear hrs hD5
                  have HOW := hrown.alloc (.cells #[.string sr, .bool x, .slice ao l c, .slice (some ⟨w.heap.size, 0, none⟩) qs.length qs.length] 160)
                  have HNW : ∀ (j : Nat) (u : Value), (RowV.cells ⟨sr, x, (ao, l, c), w.heap.size, qs.length⟩)[j]? = some u → (A5.alloc (.cells #[.string sr, .bool x, .slice ao l c, .slice (some ⟨w.heap.size, 0, none⟩) qs.length qs.length] 160)).drew.cell? ((⟨A5.heap.size, 0, none⟩ : Addr).add j) = some u :=
                    World.news_of_block (cs := #[.string sr, .bool x, .slice ao l c, .slice (some ⟨w.heap.size, 0, none⟩) qs.length qs.length]) (World.alloc_heap_new A5 _)
                  have HO1 : ∀ u ∈ RowV.cells ⟨sr, x, (ao, l, c), w.heap.size, qs.length⟩, u.oneCell' = true := by
                    intro u hu
                    simp only [RowV.cells, List.mem_cons, List.not_mem_nil, or_false] at hu
                    rcases hu with rfl | rfl | rfl | rfl <;> rfl
                  have HNN : ∀ u ∈ RowV.cells ⟨sr, x, (ao, l, c), w.heap.size, qs.length⟩, NotDig u := by
                    intro u hu
                    simp only [RowV.cells, List.mem_cons, List.not_mem_nil, or_false] at hu
                    intro n e
                    rcases hu with rfl | rfl | rfl | rfl <;> cases e
                  have HZN : ∀ u ∈ (Value.agg #[.string ⟨#[]⟩, .bool false, .slice none 0 0, .slice none 0 0]).cells.toList, NotDig u := by
                    intro u hu
                    have hu2 : u ∈ [Value.string ⟨#[]⟩, .bool false, .slice none 0 0, .slice none 0 0] := hu
                    simp only [List.mem_cons, List.not_mem_nil, or_false] at hu2
                    intro n e
                    rcases hu2 with rfl | rfl | rfl | rfl <;> cases e
                  have HVN : ∀ g, vR.ownBlock = some g → NoDig (A5.alloc (.cells #[.string sr, .bool x, .slice ao l c, .slice (some ⟨w.heap.size, 0, none⟩) qs.length qs.length] 160)).drew g := fun g hg => (HNR.out g hg).keep (B := 0) ((Keep.alloc _ _ _).trans (Keep.drew _ _))
                  have HGX : some gp ≠ vR.ownBlock := fun e => hne gp e.symm rfl
                  have e1x : (A5.alloc (.cells #[.string sr, .bool x, .slice ao l c, .slice (some ⟨w.heap.size, 0, none⟩) qs.length qs.length] 160)).drew.cell? ⟨gp, 1, none⟩ = some vR := (Keep.alloc 0 A5 _).cell e1
                  have e3x : (A5.alloc (.cells #[.string sr, .bool x, .slice ao l c, .slice (some ⟨w.heap.size, 0, none⟩) qs.length qs.length] 160)).drew.frozen? ⟨gp, 1, none⟩ = false := ((Keep.alloc 0 A5 _).frozen e1).trans e3
                  have hgl5 : gp < (A5.alloc (.cells #[.string sr, .bool x, .slice ao l c, .slice (some ⟨w.heap.size, 0, none⟩) qs.length qs.length] 160)).drew.heap.size := by simp; omega
                  gi_wp2
                  refine wpIn_calm2 ?_
                  refine wpIn_wide.2 ?_
                  go_region_law (refine step_append_dig _ rfl (.tmp 41) (.tmp 43) 107 rfl 0 160 ir _ 4 72 Tryz.underlying107 hir hr0 hr1 hr2 rfl (by decide) vR rs.length (rowCells rs) rfl HOW ⟨A5.heap.size, 0, none⟩ 1 1 (RowV.cells ⟨sr, x, (ao, l, c), w.heap.size, qs.length⟩) rfl rfl HNW HO1 (by omega) (by unfold maxLen; omega) (by omega) (Nat.zero_le _) _ rfl HZN HNN HVN ?_; intro g6 cap6 A6 hown6 hg6 hat6 hlt6 hnd6; have q1 := (hg6.cell_far ⟨gp, 1, none⟩ hgl5 HGX).trans e1x; have q3 := (hg6.frozen_far ⟨gp, 1, none⟩ hgl5 HGX).trans e3x)
                  all_goals simp only []
                  all_goals gi_wp2
                  all_goals obtain ⟨z1, z2, z3, z4⟩ := row_kept HD.out hb5 _ hd5 (by omega) HRL.out HRS.out HRI.out hown6 hg6 hat6 hnd6
                  all_goals refine leave_mark z3 ?_
                  all_goals exact ⟨.bool true, by simp [results, Tryz.results241, go_sem], by rw [hr], z1.keep (Keep.putObj (.deferred none) (by omega) z3 rfl), fun _ => ⟨_, by have z5 := z2.keep (B := w.heap.size) (Keep.putObj (.deferred none) (by omega) z3 rfl); rw [hnn] at z5; exact z5, z4⟩⟩
                · have hrf : rowB qs.length (words s) = false := by simpa using hr
                  rw [hrf]
                  clear hrow5
                  gi_wp2
                  refine leave_mark hd5 ?_
                  have hkp : Keep w.heap.size A5 (A5.putObj D (.deferred none)) := Keep.putObj (.deferred none) (by omega) hd5 rfl
                  exact ⟨.bool false, by simp [results, Tryz.results241, go_sem], by rw [hrf], (Wr.of_below hb5).keep hkp, fun h => by rw [hrf] at h; cases h⟩
              exact AllReadyIn.nil
            exact AllReadyIn.nil
          exact AllReadyIn.nil
        exact AllReadyIn.nil
      exact AllReadyIn.nil
    exact AllReadyIn.nil
  case stop =>
    rintro D c k A hD hk h hd
    exact h.elim
  · obtain ⟨i, hi, rfl⟩ := List.mem_map.1 hv
    rfl
end Go.Proofs.YtnhfdcfnojnofaaGreatDoor
