/-
  Part 28 of the texts ahead of Pks1: Dvs3.
-/
import Derived.Test.YtnhfdcfnojnofaaGreatDoorPks1Z26
import Derived.Test.YtnhfdcfnojnofaaGreatDoorPks1Z27
import Derived.Test.YtnhfdcfnojnofaaGreatDoorPks1Z25
set_option linter.unusedSimpArgs false
set_option linter.unusedVariables false
/-
  What a condition's line does (package problem): its text.
-/
namespace Go.Proofs.YtnhfdcfnojnofaaGreatDoor
open Go.RowKit
attribute [local go_sem] Oper.semAt_some wide_depth wide_fn

def itoaB (z : Int) : ByteArray := ⟨(Lib.itoa z).toArray⟩

theorem cap40 {z : Int} (h : z.natAbs < 10 ^ 40) : z.natAbs < Cap := Nat.lt_trans h (Nat.lt_trans (by decide) ten_cap)

/-- The cells of a row of whole numbers, as values. -/
theorem whs_cells {w : World} {b : Nat} {zs : List Int} (hz : Whs w b zs) :
    ∃ x : Nat → Nat → Value, (∀ i j, i < zs.length → j < 2 → w.cell? ⟨b, i * 2 + j, none⟩ = some (x i j)) ∧ ∀ k, k < zs.length → ∃ y a l c, x k 0 = .bool y ∧ x k 1 = .slice a l c ∧ WholeV w (.agg #[.bool y, .slice a l c]) (zs.getD k 0) := by
  refine ⟨fun i j => (w.cell? ⟨b, i * 2 + j, none⟩).getD .nilFunc, fun i j hi hj => ?_, fun k hk => ?_⟩
  · obtain ⟨y, a, l, c, h1, h2, _⟩ := hz.2 i hi
    rw [Nat.mul_comm] at h1 h2
    obtain rfl | rfl : j = 0 ∨ j = 1 := by omega
    · simp only [Nat.add_zero, h1, Option.getD_some]
    · simp only [h2, Option.getD_some]
  · obtain ⟨y, a, l, c, h1, h2, h3, _⟩ := hz.2 k hk
    rw [Nat.mul_comm] at h1 h2
    exact ⟨y, a, l, c, by simp only [Nat.add_zero, h1, Option.getD_some], by simp only [h2, Option.getD_some], h3⟩

theorem take_itoa (zs : List Int) (k : Nat) (hk : k < zs.length) : (zs.take (k + 1)).map itoaB = (zs.take k).map itoaB ++ [itoaB (zs.getD k 0)] := by
  rw [List.take_succ_eq_append_getElem hk, List.map_append, List.getD_eq_getElem?_getD, List.getElem?_eq_getElem hk]
  rfl

theorem tell_len (zs : List Int) (hz : ∀ z ∈ zs, z.natAbs < 10 ^ 40) : (tellS zs).length ≤ 99 * zs.length := by
  induction zs with
  | nil => simp [tellS]
  | cons z r ih =>
    have h1 := itoa_cap (cap40 (hz z (by simp)))
    have h2 := ih (fun y hy => hz y (by simp [hy]))
    unfold tellS at h2 ⊢
    simp only [List.flatMap_cons, List.length_append, List.length_cons]
    omega

theorem join_row (zs : List Int) (rel : List UInt8) (b : Int) : Lib.join ((⟨wRow.toArray⟩ :: (zs.map itoaB ++ [⟨rel.toArray⟩, itoaB b])).map (fun x : ByteArray => x.data.toList)) [32] ++ [10] = rowS (zs, rel, b) := by
  have e : (⟨wRow.toArray⟩ :: (zs.map itoaB ++ [⟨rel.toArray⟩, itoaB b])).map (fun x : ByteArray => x.data.toList) = wRow :: (zs.map Lib.itoa ++ [rel, Lib.itoa b]) := by
    simp [itoaB, List.map_map, Function.comp_def]
  rw [e, Lib.join_cons]
  unfold Lib.joinTail rowS
  rw [List.map_append, List.flatten_append]
  have e2 : ((zs.map Lib.itoa).map ([32] ++ ·)).flatten = tellS zs := by
    unfold tellS
    rw [List.map_map, List.flatMap_def]
    rfl
  rw [e2]
  simp [tellS]

set_option maxHeartbeats 4000000 in
set_option maxRecDepth 100000 in
theorem line_any (T : Nat → Prop) (r : RowV) (row : List Int × List UInt8 × Int) (w : World) (h : RowIs w T r row) (htab : Tab w) (hn : row.1.length ≤ 4) (hrel : row.2.1.length ≤ 2) (hb1 : ∀ z ∈ row.1, z.natAbs < 10 ^ 40) (hb2 : row.2.2.natAbs < 10 ^ 40) :
    Calls Tryz.prog 91 #[.agg #[.string r.s, .bool r.x, .slice r.b.1 r.b.2.1 r.b.2.2, .slice (some ⟨r.f, 0, none⟩) r.n r.n]] w fun e w' => e = .returned (.string ⟨(rowS row).toArray⟩) ∧ Below w.heap.size w w' := by
  obtain ⟨_, hrn, hz, hrs, hwb⟩ := h
  obtain ⟨zs, rel, bd⟩ := row
  simp only at hrn hz hrs hwb hn hrel hb1 hb2
  obtain ⟨rs, rx, ⟨bo, bl, bc⟩, rf, rn⟩ := r
  simp only at hrn hz hrs hwb ⊢
  subst hrn hrs
  have hfl := hz.lt
  obtain ⟨x, hxc, hxk⟩ := whs_cells hz
  have HXC := hide hxc
  have HXK := hide hxk
  have HSB := hide (fun W (hW : Below w.heap.size w W) => wholeString_any W _ bd (hwb.below hW) (cap40 hb2) (htab.below hW))
  have HSK := hide (fun k (hk : k < zs.length) (y : Bool) (a : Option Addr) (l c : Nat) (hwk : WholeV w (.agg #[.bool y, .slice a l c]) (zs.getD k 0)) W (hW : Below w.heap.size w W) => wholeString_any W _ (zs.getD k 0) (hwk.below hW) (cap40 (hb1 _ (by rw [List.getD_eq_getElem?_getD, List.getElem?_eq_getElem hk]; exact List.getElem_mem _))) (htab.below hW))
  have HTL := tell_len zs hb1
  have HJR := hide (join_row zs rel bd)
  clear hxc hxk hz hwb htab
  have hm : Tryz.prog.follows .mixedOrders = true := by kernel_rfl
  have hb0 : Below w.heap.size w (w.alloc (.cells #[.string ⟨rel.toArray⟩, .bool rx, .slice bo bl bc, .slice (some ⟨rf, 0, none⟩) zs.length zs.length] 160)) := (Below.refl _ _).alloc (Nat.le_refl _) _
  have HW0 := Wds.start w _ hb0 ⟨wRow.toArray⟩
  rw [World.size_alloc] at HW0
  have HRB : ((w.alloc (.cells #[.string ⟨rel.toArray⟩, .bool rx, .slice bo bl bc, .slice (some ⟨rf, 0, none⟩) zs.length zs.length] 160)).alloc (.cells #[.string ⟨wRow.toArray⟩] 9)).alloc (.cells #[.slice (some ⟨w.heap.size + 1, 0, none⟩) 1 1] 44) |>.heap[w.heap.size]? = some (.cells #[.string ⟨rel.toArray⟩, .bool rx, .slice bo bl bc, .slice (some ⟨rf, 0, none⟩) zs.length zs.length] 160) := by
    rw [Below.heap_alloc _ _ _ (by simp; omega), Below.heap_alloc _ _ _ (by simp)]
    exact World.alloc_heap_new w _
  have HWS := hide (And.intro HW0 HRB)
  have g0 := cell_of_row _ _ 0 _ _ _ HRB
  have g1 := cell_of_row _ _ 1 _ _ _ HRB
  have g2 := cell_of_row _ _ 2 _ _ _ HRB
  have g3 := cell_of_row _ _ 3 _ _ _ HRB
  clear HW0 HRB
  refine (callsIn_wide (n := 0)).1 ?_
  refine callsIn_of_wp_marks Tryz.func91 rfl trivial ?_ rfl
  simp only [Tryz.ntmps91, List.size_toArray, List.length_cons, List.length_nil, Nat.reduceAdd, Nat.reduceSub, Array.replicate_succ, Array.replicate_zero, List.push_toArray, List.append_toArray, List.nil_append, List.cons_append]
  gi_wp2
  refine (callsIn_wide.2 (factors_mk _ _ _ _ _ _ _ _ _)).mono ?_
  rintro e w1 ⟨rfl, rfl⟩
  gi_wp2
  refine range_list (each_seq_whole x (some ⟨rf, 0, none⟩) rf zs.length zs.length (w.heap.size + 1 + 1 + 1 + 1) (by omega) (fun _ => rfl)) rfl (enters_f Tryz.func327 (by kernel_rfl) rfl) (fun v hv => ?_)
    (fun k M A => k ≤ zs.length ∧ ∃ xs ap kp, Hid (xs = ⟨wRow.toArray⟩ :: (zs.take k).map itoaB) ∧ Wds w.heap.size w A (w.heap.size + 1 + 1) xs [w.heap.size + 1 + 1 + 1 + 1, w.heap.size] ap kp ∧ A.cell? ⟨w.heap.size + 1 + 1 + 1 + 1, 0, none⟩ = some (.slice (some ⟨rf, 0, none⟩) zs.length zs.length) ∧ A.heap[w.heap.size]? = some (.cells #[.string ⟨rel.toArray⟩, .bool rx, .slice bo bl bc, .slice (some ⟨rf, 0, none⟩) zs.length zs.length] 160) ∧ ∀ y, M y ↔ y = w.heap.size + 1 + 1 ∨ (Value.slice ap xs.length kp).ownBlock = some y)
    (fun c k A => False) (fun y => y = w.heap.size + 1 + 1 ∨ (Value.slice (some ⟨w.heap.size + 1, 0, none⟩) 1 1).ownBlock = some y) ?hI ?hIx ?hC ?h0 ?round ?done ?stop
  case hI =>
    rintro k M A B' ⟨h1, xs, ap, kp, h2, h3, h4, h5, h6⟩ hk
    exact ⟨h1, xs, ap, kp, h2, h3.keep hk (by simp; omega), hk.cell h4, (hk.cells' h5 rfl).trans h5, h6⟩
  case hIx =>
    rintro c k A B' h _
    exact h.elim
  case hC =>
    rintro k M A ⟨h1, xs, ap, kp, h2, h3, h4, h5, h6⟩
    refine ⟨⟨h4, fun i j hi hj => (h3.bel.cell (p := ⟨rf, i * 2 + j, none⟩) hfl).trans (HXC.out i j hi hj)⟩, fun y hy => ?_⟩
    rcases (h6 y).1 hy with e | e
    · rw [e]; exact h3.lt _ (by simp)
    · exact (h3.own.lt y e).2
  case h0 =>
    refine ⟨Nat.zero_le _, [⟨wRow.toArray⟩], some ⟨w.heap.size + 1, 0, none⟩, 1, by simp [Hid], ?_, ?_, ?_, fun _ => Iff.rfl⟩
    · have h1 := HWS.out.1.avoid w.heap.size (by simp; omega) (fun g e => by simp [Value.ownBlock] at e; omega)
      have h2 := (h1.alloc (.cells #[.string ⟨rel.toArray⟩, .bool rx, .slice bo bl bc, .slice (some ⟨rf, 0, none⟩) zs.length zs.length] 160)).alloc_avoid (.cells #[.slice (some ⟨rf, 0, none⟩) zs.length zs.length] 158)
      simp only [World.size_alloc] at h2
      exact h2
    · exact cell_of_row _ _ _ _ _ _ (five_heap w _ _ _ _ _).2.2.2.2
    · exact (five_heap w _ _ _ _ _).1
  case round =>
    rintro l2 k v M A hv ⟨hkn0, xs, ap, kp, hxs, hW, hbt, hRB, hM⟩
    have hkn : k < zs.length := by
      have := (List.getElem?_eq_some_iff.1 hv).1
      rwa [wholeVs_len] at this
    rw [wholeVs_get hkn] at hv
    injection hv with hv
    subst hv
    obtain ⟨y0, a0, l0, c0, e0, e1, hwk⟩ := HXK.out k hkn
    have HST := hide (fun W hW => HSK.out k hkn y0 a0 l0 c0 hwk W hW)
    rw [e0, e1]
    clear e0 e1 hwk
    have hxl : xs.length = k + 1 := by rw [hxs.out]; simp; omega
    have HXS : Hid (xs ++ [itoaB (zs.getD k 0)] = ⟨wRow.toArray⟩ :: (zs.take (k + 1)).map itoaB) := by rw [Hid, hxs.out, take_itoa zs k hkn]; rfl
    have HIB : Hid (itoaB (zs.getD k 0) = ⟨(Lib.itoa (zs.getD k 0)).toArray⟩) := rfl
    generalize hzk : zs.getD k 0 = zk at *
    unfold RoundOK
    gi_wp2
    refine ⟨Wr.of_below ((Below.refl _ _).alloc (Nat.le_refl _) _), fun A2 hk2 => ?_⟩
    have hka := (Keep.alloc _ A _).trans hk2
    have HW2 := hW.keep hka (by simp; omega)
    have hbt2 := hka.cell hbt
    have hRB2 := (hka.cells' hRB rfl).trans hRB
    have p0 : A2.cell? ⟨A.heap.size, 0, none⟩ = some (.bool y0) := hk2.cell (cell_of_row _ _ _ _ _ _ (World.alloc_heap_new A _))
    have p1 : A2.cell? ⟨A.heap.size, 1, none⟩ = some (.slice a0 l0 c0) := hk2.cell (cell_of_row _ _ _ _ _ _ (World.alloc_heap_new A _))
    have hsA : A.heap.size ≤ A2.heap.size := hka.size
    have c6 := HW2.box
    have hxl9 : xs.length ≤ 900 := by omega
    clear hxl
    clear hk2 hka hbt hRB hW HXK HXC HSK HSB HWS g0 g1 g2 g3 HJR
    have HFIN : Hid (∀ (B1 : World) (g cap : Nat) (A4 : World), Below A2.drew.heap.size A2.drew B1 →
        A4.ownsRow w.heap.size 9 1 (.slice (some ⟨g, 0, none⟩) (xs.length + [itoaB zk].length) cap) (xs.length + [itoaB zk].length) (xs.map Value.string ++ [itoaB zk].map Value.string) → (B1.alloc (.cells #[.string (itoaB zk)] 9)).grownBy A4 (Value.slice ap xs.length kp).ownBlock → ((Value.slice ap xs.length kp).ownBlock = some g ∨ g = (B1.alloc (.cells #[.string (itoaB zk)] 9)).heap.size) →
        A4.cell? ⟨w.heap.size + 1 + 1, 0, none⟩ = some (.slice ap xs.length kp) ∧ A4.frozen? ⟨w.heap.size + 1 + 1, 0, none⟩ = false ∧ Hid (Wr M A2 (A4.setCell ⟨w.heap.size + 1 + 1, 0, none⟩ (.slice (some ⟨g, 0, none⟩) (xs.length + [itoaB zk].length) cap)) ∧ ∃ M' : Nat → Prop, (k + 1 ≤ zs.length ∧ ∃ xs' ap' kp', Hid (xs' = ⟨wRow.toArray⟩ :: (zs.take (k + 1)).map itoaB) ∧ Wds w.heap.size w (A4.setCell ⟨w.heap.size + 1 + 1, 0, none⟩ (.slice (some ⟨g, 0, none⟩) (xs.length + [itoaB zk].length) cap)) (w.heap.size + 1 + 1) xs' [w.heap.size + 1 + 1 + 1 + 1, w.heap.size] ap' kp' ∧ (A4.setCell ⟨w.heap.size + 1 + 1, 0, none⟩ (.slice (some ⟨g, 0, none⟩) (xs.length + [itoaB zk].length) cap)).cell? ⟨w.heap.size + 1 + 1 + 1 + 1, 0, none⟩ = some (.slice (some ⟨rf, 0, none⟩) zs.length zs.length) ∧
          (A4.setCell ⟨w.heap.size + 1 + 1, 0, none⟩ (.slice (some ⟨g, 0, none⟩) (xs.length + [itoaB zk].length) cap)).heap[w.heap.size]? = some (.cells #[.string ⟨rel.toArray⟩, .bool rx, .slice bo bl bc, .slice (some ⟨rf, 0, none⟩) zs.length zs.length] 160) ∧ ∀ y, M' y ↔ y = w.heap.size + 1 + 1 ∨ (Value.slice ap' xs'.length kp').ownBlock = some y) ∧ ∀ y, M' y → M y ∨ A.heap.size ≤ y)) := by
      intro B1 g cap A4 hB1 hown hg hat
      have HWB := (HW2.drew.below hB1).alloc (.cells #[.string (itoaB zk)] 9)
      obtain ⟨d1, d2, HX⟩ := HWB.grow (ys := [itoaB zk]) hown hg hat
      obtain ⟨hx1, hx2, hx3, hx4, hx5, hx6⟩ := HX.out
      have hEB : Below A2.heap.size A2 (B1.alloc (.cells #[.string (itoaB zk)] 9)) := by
        have h1 : Below A2.heap.size A2 B1 := ⟨hB1.os, hB1.tape, hB1.output, hB1.size, hB1.block⟩
        exact h1.alloc h1.size _
      have hn1 : ∀ y, (y = w.heap.size + 1 + 1 ∨ (Value.slice ap xs.length kp).ownBlock = some y) → M y := fun y hy => (hM y).2 hy
      refine ⟨d1, d2, (Wr.of_below hEB).trans (hx5.mono hn1), fun y => y = w.heap.size + 1 + 1 ∨ (Value.slice (some ⟨g, 0, none⟩) (xs.length + [itoaB zk].length) cap).ownBlock = some y, ⟨by omega, xs ++ [itoaB zk], _, _, HXS, hx4, ?_, ?_, fun _ => by rw [List.length_append]⟩, fun y hy => ?_⟩
      · refine hx5.cell (p := ⟨w.heap.size + 1 + 1 + 1 + 1, 0, none⟩) (fun e => ?_) ((hEB.cell (p := ⟨w.heap.size + 1 + 1 + 1 + 1, 0, none⟩) (block_lt_of_cell hbt2)).trans hbt2)
        rcases e with e | e
        · have e : w.heap.size + 1 + 1 + 1 + 1 = w.heap.size + 1 + 1 := e
          omega
        · exact HW2.sep _ e (w.heap.size + 1 + 1 + 1 + 1) (by simp) rfl
      · refine hx5.some ((hEB.block _ (lt_of_block hRB2)).trans hRB2) (fun e => ?_)
        rcases e with e | e
        · omega
        · exact HW2.sep _ e w.heap.size (by simp) rfl
      · rcases hy with e | e
        · exact .inl ((hM y).2 (.inl e))
        · have hyg : y = g := by simpa [Value.ownBlock] using e.symm
          subst hyg
          rcases hx6 with e2 | e2
          · exact .inl ((hM _).2 (.inr e2))
          · have := hEB.size
            exact .inr (by omega)
    have HBL : Below w.heap.size w A2.drew := HW2.drew.bel
    clear hM hbt2 hRB2
    gi_wp2
    refine wpIn_region_any hm ?_
    try (change wpAnyIn _ _ _ _ _ _ _ _ _ (World.drew _))
    refine wpAnyIn_ready (rs := [0, 1]) (by kernel_rfl) (by simp) ?_
    refine AllReadyIn.cons rfl (fun K hK => ?_) ?_
    · go_simp
      refine hK _ _ ?_
      clear hK K
      refine wpAnyIn_ready (rs := [1]) (by kernel_rfl) (by simp) ?_
      refine AllReadyIn.cons rfl (fun K hK => ?_) ?_
      · go_simp
        refine hK _ _ ?_
        clear hK K
        refine wpAnyIn_ready (rs := [2]) (by kernel_rfl) (by simp) ?_
        refine AllReadyIn.cons rfl (fun K hK => ?_) ?_
        · go_simp
          refine (CallsIn.inRound l2 (callsIn_wide.2 (HST.out _ HBL))).mono ?_
          rintro e B1 ⟨rfl, hB1⟩
          rw [← HIB.out]
          have HWB := HW2.drew.below hB1
          have c7 := HWB.box
          have c8 := (HWB.alloc (.cells #[.string (itoaB zk)] 9)).box
          simp only []
          refine hK _ _ ?_
          clear hK K
          refine wpAnyIn_ready (rs := [3]) (by kernel_rfl) (by simp) ?_
          refine AllReadyIn.cons rfl (fun K hK => ?_) ?_
          · go_simp
            refine hK _ _ ?_
            clear hK K
            refine wpAnyIn_ready (rs := [4]) (by kernel_rfl) (by simp) ?_
            refine AllReadyIn.cons rfl (fun K hK => ?_) ?_
            · refine step_words _ rfl (.tmp 9) (.tmp 12) rfl [itoaB zk] (HWB.alloc (.cells #[.string (itoaB zk)] 9)) hxl9 (by simp) (by simp) rfl rfl (World.alloc_heap_new B1 (.cells #[.string (itoaB zk)] 9)) ?_
              intro g cap A4 hown4 hg4 hat4
              obtain ⟨d1, d2, HF⟩ := HFIN.out B1 g cap A4 hB1 hown4 hg4 hat4
              refine hK _ _ ?_
              clear hK K hown4 hg4 hat4
              refine wpAnyIn_ready (rs := [5]) (by kernel_rfl) (by simp) ?_
              refine AllReadyIn.cons rfl (fun K hK => ?_) ?_
              · go_simp
                refine hK _ _ ?_
                clear hK K
                refine wpAnyIn_done (by kernel_rfl) ?_ _
                gi_wp2
                exact HF.out
              exact AllReadyIn.nil
            exact AllReadyIn.nil
          exact AllReadyIn.nil
        exact AllReadyIn.nil
      exact AllReadyIn.nil
    refine AllReadyIn.cons rfl (fun K hK => ?_) ?_
    · go_simp
      refine hK _ _ ?_
      clear hK K
      refine wpAnyIn_ready (rs := [0, 2]) (by kernel_rfl) (by simp) ?_
      refine AllReadyIn.cons rfl (fun K hK => ?_) ?_
      · go_simp
        refine hK _ _ ?_
        clear hK K
        refine wpAnyIn_ready (rs := [2]) (by kernel_rfl) (by simp) ?_
        refine AllReadyIn.cons rfl (fun K hK => ?_) ?_
        · go_simp
          refine (CallsIn.inRound l2 (callsIn_wide.2 (HST.out _ HBL))).mono ?_
          rintro e B1 ⟨rfl, hB1⟩
          rw [← HIB.out]
          have HWB := HW2.drew.below hB1
          have c7 := HWB.box
          have c8 := (HWB.alloc (.cells #[.string (itoaB zk)] 9)).box
          simp only []
          refine hK _ _ ?_
          clear hK K
          refine wpAnyIn_ready (rs := [3]) (by kernel_rfl) (by simp) ?_
          refine AllReadyIn.cons rfl (fun K hK => ?_) ?_
          · go_simp
            refine hK _ _ ?_
            clear hK K
            refine wpAnyIn_ready (rs := [4]) (by kernel_rfl) (by simp) ?_
            refine AllReadyIn.cons rfl (fun K hK => ?_) ?_
            · refine step_words _ rfl (.tmp 9) (.tmp 12) rfl [itoaB zk] (HWB.alloc (.cells #[.string (itoaB zk)] 9)) hxl9 (by simp) (by simp) rfl rfl (World.alloc_heap_new B1 (.cells #[.string (itoaB zk)] 9)) ?_
              intro g cap A4 hown4 hg4 hat4
              obtain ⟨d1, d2, HF⟩ := HFIN.out B1 g cap A4 hB1 hown4 hg4 hat4
              refine hK _ _ ?_
              clear hK K hown4 hg4 hat4
              refine wpAnyIn_ready (rs := [5]) (by kernel_rfl) (by simp) ?_
              refine AllReadyIn.cons rfl (fun K hK => ?_) ?_
              · go_simp
                refine hK _ _ ?_
                clear hK K
                refine wpAnyIn_done (by kernel_rfl) ?_ _
                gi_wp2
                exact HF.out
              exact AllReadyIn.nil
            exact AllReadyIn.nil
          exact AllReadyIn.nil
        exact AllReadyIn.nil
      refine AllReadyIn.cons rfl (fun K hK => ?_) ?_
      · go_simp
        refine (CallsIn.inRound l2 (callsIn_wide.2 (HST.out _ HBL))).mono ?_
        rintro e B1 ⟨rfl, hB1⟩
        rw [← HIB.out]
        have HWB := HW2.drew.below hB1
        have c7 := HWB.box
        have c8 := (HWB.alloc (.cells #[.string (itoaB zk)] 9)).box
        simp only []
        refine hK _ _ ?_
        clear hK K
        refine wpAnyIn_ready (rs := [0, 3]) (by kernel_rfl) (by simp) ?_
        refine AllReadyIn.cons rfl (fun K hK => ?_) ?_
        · go_simp
          refine hK _ _ ?_
          clear hK K
          refine wpAnyIn_ready (rs := [3]) (by kernel_rfl) (by simp) ?_
          refine AllReadyIn.cons rfl (fun K hK => ?_) ?_
          · go_simp
            refine hK _ _ ?_
            clear hK K
            refine wpAnyIn_ready (rs := [4]) (by kernel_rfl) (by simp) ?_
            refine AllReadyIn.cons rfl (fun K hK => ?_) ?_
            · refine step_words _ rfl (.tmp 9) (.tmp 12) rfl [itoaB zk] (HWB.alloc (.cells #[.string (itoaB zk)] 9)) hxl9 (by simp) (by simp) rfl rfl (World.alloc_heap_new B1 (.cells #[.string (itoaB zk)] 9)) ?_
              intro g cap A4 hown4 hg4 hat4
              obtain ⟨d1, d2, HF⟩ := HFIN.out B1 g cap A4 hB1 hown4 hg4 hat4
              refine hK _ _ ?_
              clear hK K hown4 hg4 hat4
              refine wpAnyIn_ready (rs := [5]) (by kernel_rfl) (by simp) ?_
              refine AllReadyIn.cons rfl (fun K hK => ?_) ?_
              · go_simp
                refine hK _ _ ?_
                clear hK K
                refine wpAnyIn_done (by kernel_rfl) ?_ _
                gi_wp2
                exact HF.out
              exact AllReadyIn.nil
            exact AllReadyIn.nil
          exact AllReadyIn.nil
        refine AllReadyIn.cons rfl (fun K hK => ?_) ?_
        · go_simp
          refine hK _ _ ?_
          clear hK K
          refine wpAnyIn_ready (rs := [0]) (by kernel_rfl) (by simp) ?_
          refine AllReadyIn.cons rfl (fun K hK => ?_) ?_
          · go_simp
            refine hK _ _ ?_
            clear hK K
            refine wpAnyIn_ready (rs := [4]) (by kernel_rfl) (by simp) ?_
            refine AllReadyIn.cons rfl (fun K hK => ?_) ?_
            · refine step_words _ rfl (.tmp 9) (.tmp 12) rfl [itoaB zk] (HWB.alloc (.cells #[.string (itoaB zk)] 9)) hxl9 (by simp) (by simp) rfl rfl (World.alloc_heap_new B1 (.cells #[.string (itoaB zk)] 9)) ?_
              intro g cap A4 hown4 hg4 hat4
              obtain ⟨d1, d2, HF⟩ := HFIN.out B1 g cap A4 hB1 hown4 hg4 hat4
              refine hK _ _ ?_
              clear hK K hown4 hg4 hat4
              refine wpAnyIn_ready (rs := [5]) (by kernel_rfl) (by simp) ?_
              refine AllReadyIn.cons rfl (fun K hK => ?_) ?_
              · go_simp
                refine hK _ _ ?_
                clear hK K
                refine wpAnyIn_done (by kernel_rfl) ?_ _
                gi_wp2
                exact HF.out
              exact AllReadyIn.nil
            exact AllReadyIn.nil
          exact AllReadyIn.nil
        exact AllReadyIn.nil
      exact AllReadyIn.nil
    exact AllReadyIn.nil
  case done =>
    rintro D M A hD ⟨h1, xs, ap, kp, hxs, hW, hbt, hRB, hM⟩ hd
    rw [wholeVs_len, List.take_of_length_le (Nat.le_refl _)] at hxs
    have hDs : w.heap.size < D := by simp at hD; omega
    have hDl : D < A.heap.size := lt_of_block hd
    have hRl : w.heap.size < A.heap.size := lt_of_block hRB
    have hxl : xs.length = zs.length + 1 := by rw [hxs.out]; simp
    have hxl9 : xs.length ≤ 900 := by omega
    have HXY : Hid (xs ++ [⟨rel.toArray⟩, itoaB bd] = ⟨wRow.toArray⟩ :: (zs.map itoaB ++ [⟨rel.toArray⟩, itoaB bd])) := by rw [Hid, hxs.out]; rfl
    have HIB : Hid (itoaB bd = ⟨(Lib.itoa bd).toArray⟩) := rfl
    have HLN : Hid ((Lib.join ((xs ++ [⟨rel.toArray⟩, itoaB bd]).map (fun x : ByteArray => x.data.toList)) [32]).length ≤ 1000000) := by
      have h3 := congrArg List.length HJR.out
      rw [← HXY.out] at h3
      have h4 := itoa_cap (cap40 hb2)
      have h5 : (rowS (zs, rel, bd)).length ≤ 10000 := by
        unfold rowS
        have h6 := tell_len [bd] (by simpa using hb2)
        simp [wRow] at h6 ⊢
        omega
      rw [List.length_append] at h3
      rw [Hid]
      omega
    have c6 := hW.box
    have r0 : A.cell? ⟨w.heap.size, 0, none⟩ = some (.string ⟨rel.toArray⟩) := cell_of_row _ _ _ _ _ _ hRB
    have r1 : A.cell? ⟨w.heap.size, 1, none⟩ = some (.bool rx) := cell_of_row _ _ _ _ _ _ hRB
    have r2 : A.cell? ⟨w.heap.size, 2, none⟩ = some (.slice bo bl bc) := cell_of_row _ _ _ _ _ _ hRB
    have HBL : Below w.heap.size w A.drew := hW.drew.bel
    have HFJ : Hid (∀ (B1 : World) (g cap : Nat) (A4 : World), Below A.drew.heap.size A.drew B1 →
        A4.ownsRow w.heap.size 9 1 (.slice (some ⟨g, 0, none⟩) (xs.length + [⟨rel.toArray⟩, itoaB bd].length) cap) (xs.length + [⟨rel.toArray⟩, itoaB bd].length) (xs.map Value.string ++ [⟨rel.toArray⟩, itoaB bd].map Value.string) → (B1.alloc (.cells #[.string ⟨rel.toArray⟩, .string (itoaB bd)] 9)).grownBy A4 (Value.slice ap xs.length kp).ownBlock → ((Value.slice ap xs.length kp).ownBlock = some g ∨ g = (B1.alloc (.cells #[.string ⟨rel.toArray⟩, .string (itoaB bd)] 9)).heap.size) →
        Calls Tryz.prog 86 #[.slice (some ⟨g, 0, none⟩) (xs.length + [⟨rel.toArray⟩, itoaB bd].length) cap] A4 fun e w' => e = .returned (.string ⟨(rowS (zs, rel, bd)).toArray⟩) ∧ Below w.heap.size w w' ∧ w'.heap[D]? = some (.deferred (some []))) := by
      intro B1 g cap A4 hB1 hown hg hat
      have hB1' : Below A.heap.size A B1 := ⟨hB1.os, hB1.tape, hB1.output, hB1.size, hB1.block⟩
      have HWB := (hW.drew.below hB1).alloc (.cells #[.string ⟨rel.toArray⟩, .string (itoaB bd)] 9)
      obtain ⟨d1, d2, HX⟩ := HWB.grow (ys := [⟨rel.toArray⟩, itoaB bd]) hown hg hat
      obtain ⟨hx1, hx2, hx3, hx4, hx5, hx6⟩ := HX.out
      have hdB : (B1.alloc (.cells #[.string ⟨rel.toArray⟩, .string (itoaB bd)] 9)).heap[D]? = some (.deferred (some [])) := ((hB1'.alloc hB1'.size _).block D hDl).trans hd
      have hd4 : A4.heap[D]? = some (.deferred (some [])) := hx2.some hdB (fun e => by
        obtain ⟨_, k1 | ⟨g3, cap3, cur3, kv, kb, kh, _⟩⟩ := HWB.own
        · rw [k1.1] at e; cases e
        · rw [kv] at e
          simp [Value.ownBlock] at e
          subst e
          rw [hdB] at kh
          cases kh)
      have hgl : g < A4.heap.size := (hown.lt g rfl).2
      have hcapl : xs.length + [(⟨rel.toArray⟩ : ByteArray), itoaB bd].length ≤ cap := by
        obtain ⟨_, k1 | ⟨g3, cap3, cur3, kv, kb, kh, kn, _⟩⟩ := hown
        · exact absurd k1.1 (by simp)
        · simp only [Value.slice.injEq] at kv
          rw [kv.2.2]; exact kn
      have hJ := linesJoin g 0 cap (xs ++ [⟨rel.toArray⟩, itoaB bd]) A4 (fun j y hj => by
        have h5 := hown.cells (g := g) rfl j (.string y) (by rw [← List.map_append, List.getElem?_map, hj]; rfl)
        have e : (⟨g, 0, none⟩ : Addr).add j = ⟨g, 0 + j, none⟩ := by
          unfold Addr.add
          split
          · rename_i hz; rw [hz]
          · rfl
        rw [e] at h5
        exact h5) hgl (by rw [List.length_append]; simp; omega) (by rw [List.length_append]; exact hcapl) HLN.out
      rw [List.length_append] at hJ
      refine hJ.mono ?_
      rintro e w' ⟨rfl, hbj⟩
      refine ⟨?_, hx1.trans (hbj.mono (by have := hx1.size; omega)), (hbj.block D (lt_of_block hd4)).trans hd4⟩
      rw [HXY.out, HJR.out]
    clear hM hbt HXK HXC HSK HWS g0 g1 g2 g3 hxl hxs HXY HLN HJR hD
    gi_wp2
    refine wpIn_calm2 ?_
    refine wpIn_region_any hm ?_
    try (change wpAnyIn _ _ _ _ _ _ _ _ _ (World.drew _))
    refine wpAnyIn_take (i := 1) (v := .pointer (some ⟨w.heap.size, 0, none⟩)) rfl rfl (by kernel_rfl) (by kernel_rfl) (by kernel_rfl) (fun _ _ _ h => h) ⟨Or.inl ⟨by rfl, ?_⟩, fun _ => rfl⟩ ?_
    · intro w
      go_simp
    refine wpAnyIn_take (i := 3) (v := .pointer (some ⟨w.heap.size, 1, none⟩)) rfl rfl (by kernel_rfl) (by kernel_rfl) (by kernel_rfl) (fun _ _ _ h => h) ⟨Or.inl ⟨by rfl, ?_⟩, fun _ => rfl⟩ ?_
    · intro w
      go_simp
    refine wpAnyIn_ready (rs := [0, 2, 4]) (by kernel_rfl) (by simp) ?_
    refine AllReadyIn.cons rfl (fun K hK => ?_) ?_
    · go_simp
      refine hK _ _ ?_
      clear hK K
      refine wpAnyIn_ready (rs := [2, 4]) (by kernel_rfl) (by simp) ?_
      refine AllReadyIn.cons rfl (fun K hK => ?_) ?_
      · go_simp
        refine hK _ _ ?_
        clear hK K
        refine wpAnyIn_ready (rs := [4]) (by kernel_rfl) (by simp) ?_
        refine AllReadyIn.cons rfl (fun K hK => ?_) ?_
        · go_simp
          refine hK _ _ ?_
          clear hK K
          refine wpAnyIn_ready (rs := [5]) (by kernel_rfl) (by simp) ?_
          refine AllReadyIn.cons rfl (fun K hK => ?_) ?_
          · go_simp
            refine (callsIn_wide.2 (HSB.out _ HBL)).mono ?_
            rintro e B1 ⟨rfl, hB1⟩
            rw [← HIB.out]
            have HWB := hW.drew.below hB1
            have c7 := HWB.box
            have c8 := (HWB.alloc (.cells #[.string ⟨rel.toArray⟩, .string (itoaB bd)] 9)).box
            have s0 := (hB1.cell (p := ⟨w.heap.size, 0, none⟩) hRl).trans r0
            simp only []
            refine hK _ _ ?_
            clear hK K
            refine wpAnyIn_ready (rs := [6]) (by kernel_rfl) (by simp) ?_
            refine AllReadyIn.cons rfl (fun K hK => ?_) ?_
            · go_simp
              refine hK _ _ ?_
              clear hK K
              refine wpAnyIn_ready (rs := [7]) (by kernel_rfl) (by simp) ?_
              refine AllReadyIn.cons rfl (fun K hK => ?_) ?_
              · refine step_words _ rfl (.tmp 14) (.tmp 20) rfl [⟨rel.toArray⟩, itoaB bd] (HWB.alloc (.cells #[.string ⟨rel.toArray⟩, .string (itoaB bd)] 9)) hxl9 (by simp) (by simp) rfl rfl (World.alloc_heap_new B1 (.cells #[.string ⟨rel.toArray⟩, .string (itoaB bd)] 9)) ?_
                intro g cap A4 hown4 hg4 hat4
                have HJ4 := hide (HFJ.out B1 g cap A4 hB1 hown4 hg4 hat4)
                refine hK _ _ ?_
                clear hK K hown4 hg4 hat4
                refine wpAnyIn_ready (rs := [8]) (by kernel_rfl) (by simp) ?_
                refine AllReadyIn.cons rfl (fun K hK => ?_) ?_
                · go_simp
                  refine (callsIn_wide.2 HJ4.out).mono ?_
                  rintro e w5 ⟨rfl, hb5, hd5⟩
                  simp only []
                  refine hK _ _ ?_
                  clear hK K
                  refine wpAnyIn_ready (rs := [9]) (by kernel_rfl) (by simp) ?_
                  refine AllReadyIn.cons rfl (fun K hK => ?_) ?_
                  · go_simp
                    refine hK _ _ ?_
                    clear hK K
                    refine wpAnyIn_done (by kernel_rfl) ?_ _
                    simp only []
                    gi_wp2
                    refine leave_mark hd5 ?_
                    exact ⟨_, by simp [results, Tryz.results91, go_sem], rfl, (Keep.putObj (B := w.heap.size) (.deferred none) (by omega) hd5 rfl).below hb5 (Nat.le_refl _) (Nat.le_refl _)⟩
                  exact AllReadyIn.nil
                exact AllReadyIn.nil
              exact AllReadyIn.nil
            exact AllReadyIn.nil
          exact AllReadyIn.nil
        exact AllReadyIn.nil
      refine AllReadyIn.cons rfl (fun K hK => ?_) ?_
      · go_simp
        refine hK _ _ ?_
        clear hK K
        refine wpAnyIn_ready (rs := [2, 5]) (by kernel_rfl) (by simp) ?_
        refine AllReadyIn.cons rfl (fun K hK => ?_) ?_
        · go_simp
          refine hK _ _ ?_
          clear hK K
          refine wpAnyIn_ready (rs := [5]) (by kernel_rfl) (by simp) ?_
          refine AllReadyIn.cons rfl (fun K hK => ?_) ?_
          · go_simp
            refine (callsIn_wide.2 (HSB.out _ HBL)).mono ?_
            rintro e B1 ⟨rfl, hB1⟩
            rw [← HIB.out]
            have HWB := hW.drew.below hB1
            have c7 := HWB.box
            have c8 := (HWB.alloc (.cells #[.string ⟨rel.toArray⟩, .string (itoaB bd)] 9)).box
            have s0 := (hB1.cell (p := ⟨w.heap.size, 0, none⟩) hRl).trans r0
            simp only []
            refine hK _ _ ?_
            clear hK K
            refine wpAnyIn_ready (rs := [6]) (by kernel_rfl) (by simp) ?_
            refine AllReadyIn.cons rfl (fun K hK => ?_) ?_
            · go_simp
              refine hK _ _ ?_
              clear hK K
              refine wpAnyIn_ready (rs := [7]) (by kernel_rfl) (by simp) ?_
              refine AllReadyIn.cons rfl (fun K hK => ?_) ?_
              · refine step_words _ rfl (.tmp 14) (.tmp 20) rfl [⟨rel.toArray⟩, itoaB bd] (HWB.alloc (.cells #[.string ⟨rel.toArray⟩, .string (itoaB bd)] 9)) hxl9 (by simp) (by simp) rfl rfl (World.alloc_heap_new B1 (.cells #[.string ⟨rel.toArray⟩, .string (itoaB bd)] 9)) ?_
                intro g cap A4 hown4 hg4 hat4
                have HJ4 := hide (HFJ.out B1 g cap A4 hB1 hown4 hg4 hat4)
                refine hK _ _ ?_
                clear hK K hown4 hg4 hat4
                refine wpAnyIn_ready (rs := [8]) (by kernel_rfl) (by simp) ?_
                refine AllReadyIn.cons rfl (fun K hK => ?_) ?_
                · go_simp
                  refine (callsIn_wide.2 HJ4.out).mono ?_
                  rintro e w5 ⟨rfl, hb5, hd5⟩
                  simp only []
                  refine hK _ _ ?_
                  clear hK K
                  refine wpAnyIn_ready (rs := [9]) (by kernel_rfl) (by simp) ?_
                  refine AllReadyIn.cons rfl (fun K hK => ?_) ?_
                  · go_simp
                    refine hK _ _ ?_
                    clear hK K
                    refine wpAnyIn_done (by kernel_rfl) ?_ _
                    simp only []
                    gi_wp2
                    refine leave_mark hd5 ?_
                    exact ⟨_, by simp [results, Tryz.results91, go_sem], rfl, (Keep.putObj (B := w.heap.size) (.deferred none) (by omega) hd5 rfl).below hb5 (Nat.le_refl _) (Nat.le_refl _)⟩
                  exact AllReadyIn.nil
                exact AllReadyIn.nil
              exact AllReadyIn.nil
            exact AllReadyIn.nil
          exact AllReadyIn.nil
        refine AllReadyIn.cons rfl (fun K hK => ?_) ?_
        · go_simp
          refine (callsIn_wide.2 (HSB.out _ HBL)).mono ?_
          rintro e B1 ⟨rfl, hB1⟩
          rw [← HIB.out]
          have HWB := hW.drew.below hB1
          have c7 := HWB.box
          have c8 := (HWB.alloc (.cells #[.string ⟨rel.toArray⟩, .string (itoaB bd)] 9)).box
          have s0 := (hB1.cell (p := ⟨w.heap.size, 0, none⟩) hRl).trans r0
          simp only []
          refine hK _ _ ?_
          clear hK K
          refine wpAnyIn_ready (rs := [2]) (by kernel_rfl) (by simp) ?_
          refine AllReadyIn.cons rfl (fun K hK => ?_) ?_
          · go_simp
            refine hK _ _ ?_
            clear hK K
            refine wpAnyIn_ready (rs := [6]) (by kernel_rfl) (by simp) ?_
            refine AllReadyIn.cons rfl (fun K hK => ?_) ?_
            · go_simp
              refine hK _ _ ?_
              clear hK K
              refine wpAnyIn_ready (rs := [7]) (by kernel_rfl) (by simp) ?_
              refine AllReadyIn.cons rfl (fun K hK => ?_) ?_
              · refine step_words _ rfl (.tmp 14) (.tmp 20) rfl [⟨rel.toArray⟩, itoaB bd] (HWB.alloc (.cells #[.string ⟨rel.toArray⟩, .string (itoaB bd)] 9)) hxl9 (by simp) (by simp) rfl rfl (World.alloc_heap_new B1 (.cells #[.string ⟨rel.toArray⟩, .string (itoaB bd)] 9)) ?_
                intro g cap A4 hown4 hg4 hat4
                have HJ4 := hide (HFJ.out B1 g cap A4 hB1 hown4 hg4 hat4)
                refine hK _ _ ?_
                clear hK K hown4 hg4 hat4
                refine wpAnyIn_ready (rs := [8]) (by kernel_rfl) (by simp) ?_
                refine AllReadyIn.cons rfl (fun K hK => ?_) ?_
                · go_simp
                  refine (callsIn_wide.2 HJ4.out).mono ?_
                  rintro e w5 ⟨rfl, hb5, hd5⟩
                  simp only []
                  refine hK _ _ ?_
                  clear hK K
                  refine wpAnyIn_ready (rs := [9]) (by kernel_rfl) (by simp) ?_
                  refine AllReadyIn.cons rfl (fun K hK => ?_) ?_
                  · go_simp
                    refine hK _ _ ?_
                    clear hK K
                    refine wpAnyIn_done (by kernel_rfl) ?_ _
                    simp only []
                    gi_wp2
                    refine leave_mark hd5 ?_
                    exact ⟨_, by simp [results, Tryz.results91, go_sem], rfl, (Keep.putObj (B := w.heap.size) (.deferred none) (by omega) hd5 rfl).below hb5 (Nat.le_refl _) (Nat.le_refl _)⟩
                  exact AllReadyIn.nil
                exact AllReadyIn.nil
              exact AllReadyIn.nil
            exact AllReadyIn.nil
          exact AllReadyIn.nil
        exact AllReadyIn.nil
      exact AllReadyIn.nil
    refine AllReadyIn.cons rfl (fun K hK => ?_) ?_
    · go_simp
      refine hK _ _ ?_
      clear hK K
      refine wpAnyIn_ready (rs := [0, 4]) (by kernel_rfl) (by simp) ?_
      refine AllReadyIn.cons rfl (fun K hK => ?_) ?_
      · go_simp
        refine hK _ _ ?_
        clear hK K
        refine wpAnyIn_ready (rs := [4]) (by kernel_rfl) (by simp) ?_
        refine AllReadyIn.cons rfl (fun K hK => ?_) ?_
        · go_simp
          refine hK _ _ ?_
          clear hK K
          refine wpAnyIn_ready (rs := [5]) (by kernel_rfl) (by simp) ?_
          refine AllReadyIn.cons rfl (fun K hK => ?_) ?_
          · go_simp
            refine (callsIn_wide.2 (HSB.out _ HBL)).mono ?_
            rintro e B1 ⟨rfl, hB1⟩
            rw [← HIB.out]
            have HWB := hW.drew.below hB1
            have c7 := HWB.box
            have c8 := (HWB.alloc (.cells #[.string ⟨rel.toArray⟩, .string (itoaB bd)] 9)).box
            have s0 := (hB1.cell (p := ⟨w.heap.size, 0, none⟩) hRl).trans r0
            simp only []
            refine hK _ _ ?_
            clear hK K
            refine wpAnyIn_ready (rs := [6]) (by kernel_rfl) (by simp) ?_
            refine AllReadyIn.cons rfl (fun K hK => ?_) ?_
            · go_simp
              refine hK _ _ ?_
              clear hK K
              refine wpAnyIn_ready (rs := [7]) (by kernel_rfl) (by simp) ?_
              refine AllReadyIn.cons rfl (fun K hK => ?_) ?_
              · refine step_words _ rfl (.tmp 14) (.tmp 20) rfl [⟨rel.toArray⟩, itoaB bd] (HWB.alloc (.cells #[.string ⟨rel.toArray⟩, .string (itoaB bd)] 9)) hxl9 (by simp) (by simp) rfl rfl (World.alloc_heap_new B1 (.cells #[.string ⟨rel.toArray⟩, .string (itoaB bd)] 9)) ?_
                intro g cap A4 hown4 hg4 hat4
                have HJ4 := hide (HFJ.out B1 g cap A4 hB1 hown4 hg4 hat4)
                refine hK _ _ ?_
                clear hK K hown4 hg4 hat4
                refine wpAnyIn_ready (rs := [8]) (by kernel_rfl) (by simp) ?_
                refine AllReadyIn.cons rfl (fun K hK => ?_) ?_
                · go_simp
                  refine (callsIn_wide.2 HJ4.out).mono ?_
                  rintro e w5 ⟨rfl, hb5, hd5⟩
                  simp only []
                  refine hK _ _ ?_
                  clear hK K
                  refine wpAnyIn_ready (rs := [9]) (by kernel_rfl) (by simp) ?_
                  refine AllReadyIn.cons rfl (fun K hK => ?_) ?_
                  · go_simp
                    refine hK _ _ ?_
                    clear hK K
                    refine wpAnyIn_done (by kernel_rfl) ?_ _
                    simp only []
                    gi_wp2
                    refine leave_mark hd5 ?_
                    exact ⟨_, by simp [results, Tryz.results91, go_sem], rfl, (Keep.putObj (B := w.heap.size) (.deferred none) (by omega) hd5 rfl).below hb5 (Nat.le_refl _) (Nat.le_refl _)⟩
                  exact AllReadyIn.nil
                exact AllReadyIn.nil
              exact AllReadyIn.nil
            exact AllReadyIn.nil
          exact AllReadyIn.nil
        exact AllReadyIn.nil
      refine AllReadyIn.cons rfl (fun K hK => ?_) ?_
      · go_simp
        refine hK _ _ ?_
        clear hK K
        refine wpAnyIn_ready (rs := [0, 5]) (by kernel_rfl) (by simp) ?_
        refine AllReadyIn.cons rfl (fun K hK => ?_) ?_
        · go_simp
          refine hK _ _ ?_
          clear hK K
          refine wpAnyIn_ready (rs := [5]) (by kernel_rfl) (by simp) ?_
          refine AllReadyIn.cons rfl (fun K hK => ?_) ?_
          · go_simp
            refine (callsIn_wide.2 (HSB.out _ HBL)).mono ?_
            rintro e B1 ⟨rfl, hB1⟩
            rw [← HIB.out]
            have HWB := hW.drew.below hB1
            have c7 := HWB.box
            have c8 := (HWB.alloc (.cells #[.string ⟨rel.toArray⟩, .string (itoaB bd)] 9)).box
            have s0 := (hB1.cell (p := ⟨w.heap.size, 0, none⟩) hRl).trans r0
            simp only []
            refine hK _ _ ?_
            clear hK K
            refine wpAnyIn_ready (rs := [6]) (by kernel_rfl) (by simp) ?_
            refine AllReadyIn.cons rfl (fun K hK => ?_) ?_
            · go_simp
              refine hK _ _ ?_
              clear hK K
              refine wpAnyIn_ready (rs := [7]) (by kernel_rfl) (by simp) ?_
              refine AllReadyIn.cons rfl (fun K hK => ?_) ?_
              · refine step_words _ rfl (.tmp 14) (.tmp 20) rfl [⟨rel.toArray⟩, itoaB bd] (HWB.alloc (.cells #[.string ⟨rel.toArray⟩, .string (itoaB bd)] 9)) hxl9 (by simp) (by simp) rfl rfl (World.alloc_heap_new B1 (.cells #[.string ⟨rel.toArray⟩, .string (itoaB bd)] 9)) ?_
                intro g cap A4 hown4 hg4 hat4
                have HJ4 := hide (HFJ.out B1 g cap A4 hB1 hown4 hg4 hat4)
                refine hK _ _ ?_
                clear hK K hown4 hg4 hat4
                refine wpAnyIn_ready (rs := [8]) (by kernel_rfl) (by simp) ?_
                refine AllReadyIn.cons rfl (fun K hK => ?_) ?_
                · go_simp
                  refine (callsIn_wide.2 HJ4.out).mono ?_
                  rintro e w5 ⟨rfl, hb5, hd5⟩
                  simp only []
                  refine hK _ _ ?_
                  clear hK K
                  refine wpAnyIn_ready (rs := [9]) (by kernel_rfl) (by simp) ?_
                  refine AllReadyIn.cons rfl (fun K hK => ?_) ?_
                  · go_simp
                    refine hK _ _ ?_
                    clear hK K
                    refine wpAnyIn_done (by kernel_rfl) ?_ _
                    simp only []
                    gi_wp2
                    refine leave_mark hd5 ?_
                    exact ⟨_, by simp [results, Tryz.results91, go_sem], rfl, (Keep.putObj (B := w.heap.size) (.deferred none) (by omega) hd5 rfl).below hb5 (Nat.le_refl _) (Nat.le_refl _)⟩
                  exact AllReadyIn.nil
                exact AllReadyIn.nil
              exact AllReadyIn.nil
            exact AllReadyIn.nil
          exact AllReadyIn.nil
        refine AllReadyIn.cons rfl (fun K hK => ?_) ?_
        · go_simp
          refine (callsIn_wide.2 (HSB.out _ HBL)).mono ?_
          rintro e B1 ⟨rfl, hB1⟩
          rw [← HIB.out]
          have HWB := hW.drew.below hB1
          have c7 := HWB.box
          have c8 := (HWB.alloc (.cells #[.string ⟨rel.toArray⟩, .string (itoaB bd)] 9)).box
          have s0 := (hB1.cell (p := ⟨w.heap.size, 0, none⟩) hRl).trans r0
          simp only []
          refine hK _ _ ?_
          clear hK K
          refine wpAnyIn_ready (rs := [0, 6]) (by kernel_rfl) (by simp) ?_
          refine AllReadyIn.cons rfl (fun K hK => ?_) ?_
          · go_simp
            refine hK _ _ ?_
            clear hK K
            refine wpAnyIn_ready (rs := [6]) (by kernel_rfl) (by simp) ?_
            refine AllReadyIn.cons rfl (fun K hK => ?_) ?_
            · go_simp
              refine hK _ _ ?_
              clear hK K
              refine wpAnyIn_ready (rs := [7]) (by kernel_rfl) (by simp) ?_
              refine AllReadyIn.cons rfl (fun K hK => ?_) ?_
              · refine step_words _ rfl (.tmp 14) (.tmp 20) rfl [⟨rel.toArray⟩, itoaB bd] (HWB.alloc (.cells #[.string ⟨rel.toArray⟩, .string (itoaB bd)] 9)) hxl9 (by simp) (by simp) rfl rfl (World.alloc_heap_new B1 (.cells #[.string ⟨rel.toArray⟩, .string (itoaB bd)] 9)) ?_
                intro g cap A4 hown4 hg4 hat4
                have HJ4 := hide (HFJ.out B1 g cap A4 hB1 hown4 hg4 hat4)
                refine hK _ _ ?_
                clear hK K hown4 hg4 hat4
                refine wpAnyIn_ready (rs := [8]) (by kernel_rfl) (by simp) ?_
                refine AllReadyIn.cons rfl (fun K hK => ?_) ?_
                · go_simp
                  refine (callsIn_wide.2 HJ4.out).mono ?_
                  rintro e w5 ⟨rfl, hb5, hd5⟩
                  simp only []
                  refine hK _ _ ?_
                  clear hK K
                  refine wpAnyIn_ready (rs := [9]) (by kernel_rfl) (by simp) ?_
                  refine AllReadyIn.cons rfl (fun K hK => ?_) ?_
                  · go_simp
                    refine hK _ _ ?_
                    clear hK K
                    refine wpAnyIn_done (by kernel_rfl) ?_ _
                    simp only []
                    gi_wp2
                    refine leave_mark hd5 ?_
                    exact ⟨_, by simp [results, Tryz.results91, go_sem], rfl, (Keep.putObj (B := w.heap.size) (.deferred none) (by omega) hd5 rfl).below hb5 (Nat.le_refl _) (Nat.le_refl _)⟩
                  exact AllReadyIn.nil
                exact AllReadyIn.nil
              exact AllReadyIn.nil
            exact AllReadyIn.nil
          refine AllReadyIn.cons rfl (fun K hK => ?_) ?_
          · go_simp
            refine hK _ _ ?_
            clear hK K
            refine wpAnyIn_ready (rs := [0]) (by kernel_rfl) (by simp) ?_
            refine AllReadyIn.cons rfl (fun K hK => ?_) ?_
            · go_simp
              refine hK _ _ ?_
              clear hK K
              refine wpAnyIn_ready (rs := [7]) (by kernel_rfl) (by simp) ?_
              refine AllReadyIn.cons rfl (fun K hK => ?_) ?_
              · refine step_words _ rfl (.tmp 14) (.tmp 20) rfl [⟨rel.toArray⟩, itoaB bd] (HWB.alloc (.cells #[.string ⟨rel.toArray⟩, .string (itoaB bd)] 9)) hxl9 (by simp) (by simp) rfl rfl (World.alloc_heap_new B1 (.cells #[.string ⟨rel.toArray⟩, .string (itoaB bd)] 9)) ?_
                intro g cap A4 hown4 hg4 hat4
                have HJ4 := hide (HFJ.out B1 g cap A4 hB1 hown4 hg4 hat4)
                refine hK _ _ ?_
                clear hK K hown4 hg4 hat4
                refine wpAnyIn_ready (rs := [8]) (by kernel_rfl) (by simp) ?_
                refine AllReadyIn.cons rfl (fun K hK => ?_) ?_
                · go_simp
                  refine (callsIn_wide.2 HJ4.out).mono ?_
                  rintro e w5 ⟨rfl, hb5, hd5⟩
                  simp only []
                  refine hK _ _ ?_
                  clear hK K
                  refine wpAnyIn_ready (rs := [9]) (by kernel_rfl) (by simp) ?_
                  refine AllReadyIn.cons rfl (fun K hK => ?_) ?_
                  · go_simp
                    refine hK _ _ ?_
                    clear hK K
                    refine wpAnyIn_done (by kernel_rfl) ?_ _
                    simp only []
                    gi_wp2
                    refine leave_mark hd5 ?_
                    exact ⟨_, by simp [results, Tryz.results91, go_sem], rfl, (Keep.putObj (B := w.heap.size) (.deferred none) (by omega) hd5 rfl).below hb5 (Nat.le_refl _) (Nat.le_refl _)⟩
                  exact AllReadyIn.nil
                exact AllReadyIn.nil
              exact AllReadyIn.nil
            exact AllReadyIn.nil
          exact AllReadyIn.nil
        exact AllReadyIn.nil
      exact AllReadyIn.nil
    refine AllReadyIn.cons rfl (fun K hK => ?_) ?_
    · go_simp
      refine hK _ _ ?_
      clear hK K
      refine wpAnyIn_ready (rs := [0, 2, 5]) (by kernel_rfl) (by simp) ?_
      refine AllReadyIn.cons rfl (fun K hK => ?_) ?_
      · go_simp
        refine hK _ _ ?_
        clear hK K
        refine wpAnyIn_ready (rs := [2, 5]) (by kernel_rfl) (by simp) ?_
        refine AllReadyIn.cons rfl (fun K hK => ?_) ?_
        · go_simp
          refine hK _ _ ?_
          clear hK K
          refine wpAnyIn_ready (rs := [5]) (by kernel_rfl) (by simp) ?_
          refine AllReadyIn.cons rfl (fun K hK => ?_) ?_
          · go_simp
            refine (callsIn_wide.2 (HSB.out _ HBL)).mono ?_
            rintro e B1 ⟨rfl, hB1⟩
            rw [← HIB.out]
            have HWB := hW.drew.below hB1
            have c7 := HWB.box
            have c8 := (HWB.alloc (.cells #[.string ⟨rel.toArray⟩, .string (itoaB bd)] 9)).box
            have s0 := (hB1.cell (p := ⟨w.heap.size, 0, none⟩) hRl).trans r0
            simp only []
            refine hK _ _ ?_
            clear hK K
            refine wpAnyIn_ready (rs := [6]) (by kernel_rfl) (by simp) ?_
            refine AllReadyIn.cons rfl (fun K hK => ?_) ?_
            · go_simp
              refine hK _ _ ?_
              clear hK K
              refine wpAnyIn_ready (rs := [7]) (by kernel_rfl) (by simp) ?_
              refine AllReadyIn.cons rfl (fun K hK => ?_) ?_
              · refine step_words _ rfl (.tmp 14) (.tmp 20) rfl [⟨rel.toArray⟩, itoaB bd] (HWB.alloc (.cells #[.string ⟨rel.toArray⟩, .string (itoaB bd)] 9)) hxl9 (by simp) (by simp) rfl rfl (World.alloc_heap_new B1 (.cells #[.string ⟨rel.toArray⟩, .string (itoaB bd)] 9)) ?_
                intro g cap A4 hown4 hg4 hat4
                have HJ4 := hide (HFJ.out B1 g cap A4 hB1 hown4 hg4 hat4)
                refine hK _ _ ?_
                clear hK K hown4 hg4 hat4
                refine wpAnyIn_ready (rs := [8]) (by kernel_rfl) (by simp) ?_
                refine AllReadyIn.cons rfl (fun K hK => ?_) ?_
                · go_simp
                  refine (callsIn_wide.2 HJ4.out).mono ?_
                  rintro e w5 ⟨rfl, hb5, hd5⟩
                  simp only []
                  refine hK _ _ ?_
                  clear hK K
                  refine wpAnyIn_ready (rs := [9]) (by kernel_rfl) (by simp) ?_
                  refine AllReadyIn.cons rfl (fun K hK => ?_) ?_
                  · go_simp
                    refine hK _ _ ?_
                    clear hK K
                    refine wpAnyIn_done (by kernel_rfl) ?_ _
                    simp only []
                    gi_wp2
                    refine leave_mark hd5 ?_
                    exact ⟨_, by simp [results, Tryz.results91, go_sem], rfl, (Keep.putObj (B := w.heap.size) (.deferred none) (by omega) hd5 rfl).below hb5 (Nat.le_refl _) (Nat.le_refl _)⟩
                  exact AllReadyIn.nil
                exact AllReadyIn.nil
              exact AllReadyIn.nil
            exact AllReadyIn.nil
          exact AllReadyIn.nil
        refine AllReadyIn.cons rfl (fun K hK => ?_) ?_
        · go_simp
          refine (callsIn_wide.2 (HSB.out _ HBL)).mono ?_
          rintro e B1 ⟨rfl, hB1⟩
          rw [← HIB.out]
          have HWB := hW.drew.below hB1
          have c7 := HWB.box
          have c8 := (HWB.alloc (.cells #[.string ⟨rel.toArray⟩, .string (itoaB bd)] 9)).box
          have s0 := (hB1.cell (p := ⟨w.heap.size, 0, none⟩) hRl).trans r0
          simp only []
          refine hK _ _ ?_
          clear hK K
          refine wpAnyIn_ready (rs := [2]) (by kernel_rfl) (by simp) ?_
          refine AllReadyIn.cons rfl (fun K hK => ?_) ?_
          · go_simp
            refine hK _ _ ?_
            clear hK K
            refine wpAnyIn_ready (rs := [6]) (by kernel_rfl) (by simp) ?_
            refine AllReadyIn.cons rfl (fun K hK => ?_) ?_
            · go_simp
              refine hK _ _ ?_
              clear hK K
              refine wpAnyIn_ready (rs := [7]) (by kernel_rfl) (by simp) ?_
              refine AllReadyIn.cons rfl (fun K hK => ?_) ?_
              · refine step_words _ rfl (.tmp 14) (.tmp 20) rfl [⟨rel.toArray⟩, itoaB bd] (HWB.alloc (.cells #[.string ⟨rel.toArray⟩, .string (itoaB bd)] 9)) hxl9 (by simp) (by simp) rfl rfl (World.alloc_heap_new B1 (.cells #[.string ⟨rel.toArray⟩, .string (itoaB bd)] 9)) ?_
                intro g cap A4 hown4 hg4 hat4
                have HJ4 := hide (HFJ.out B1 g cap A4 hB1 hown4 hg4 hat4)
                refine hK _ _ ?_
                clear hK K hown4 hg4 hat4
                refine wpAnyIn_ready (rs := [8]) (by kernel_rfl) (by simp) ?_
                refine AllReadyIn.cons rfl (fun K hK => ?_) ?_
                · go_simp
                  refine (callsIn_wide.2 HJ4.out).mono ?_
                  rintro e w5 ⟨rfl, hb5, hd5⟩
                  simp only []
                  refine hK _ _ ?_
                  clear hK K
                  refine wpAnyIn_ready (rs := [9]) (by kernel_rfl) (by simp) ?_
                  refine AllReadyIn.cons rfl (fun K hK => ?_) ?_
                  · go_simp
                    refine hK _ _ ?_
                    clear hK K
                    refine wpAnyIn_done (by kernel_rfl) ?_ _
                    simp only []
                    gi_wp2
                    refine leave_mark hd5 ?_
                    exact ⟨_, by simp [results, Tryz.results91, go_sem], rfl, (Keep.putObj (B := w.heap.size) (.deferred none) (by omega) hd5 rfl).below hb5 (Nat.le_refl _) (Nat.le_refl _)⟩
                  exact AllReadyIn.nil
                exact AllReadyIn.nil
              exact AllReadyIn.nil
            exact AllReadyIn.nil
          exact AllReadyIn.nil
        exact AllReadyIn.nil
      refine AllReadyIn.cons rfl (fun K hK => ?_) ?_
      · go_simp
        refine hK _ _ ?_
        clear hK K
        refine wpAnyIn_ready (rs := [0, 5]) (by kernel_rfl) (by simp) ?_
        refine AllReadyIn.cons rfl (fun K hK => ?_) ?_
        · go_simp
          refine hK _ _ ?_
          clear hK K
          refine wpAnyIn_ready (rs := [5]) (by kernel_rfl) (by simp) ?_
          refine AllReadyIn.cons rfl (fun K hK => ?_) ?_
          · go_simp
            refine (callsIn_wide.2 (HSB.out _ HBL)).mono ?_
            rintro e B1 ⟨rfl, hB1⟩
            rw [← HIB.out]
            have HWB := hW.drew.below hB1
            have c7 := HWB.box
            have c8 := (HWB.alloc (.cells #[.string ⟨rel.toArray⟩, .string (itoaB bd)] 9)).box
            have s0 := (hB1.cell (p := ⟨w.heap.size, 0, none⟩) hRl).trans r0
            simp only []
            refine hK _ _ ?_
            clear hK K
            refine wpAnyIn_ready (rs := [6]) (by kernel_rfl) (by simp) ?_
            refine AllReadyIn.cons rfl (fun K hK => ?_) ?_
            · go_simp
              refine hK _ _ ?_
              clear hK K
              refine wpAnyIn_ready (rs := [7]) (by kernel_rfl) (by simp) ?_
              refine AllReadyIn.cons rfl (fun K hK => ?_) ?_
              · refine step_words _ rfl (.tmp 14) (.tmp 20) rfl [⟨rel.toArray⟩, itoaB bd] (HWB.alloc (.cells #[.string ⟨rel.toArray⟩, .string (itoaB bd)] 9)) hxl9 (by simp) (by simp) rfl rfl (World.alloc_heap_new B1 (.cells #[.string ⟨rel.toArray⟩, .string (itoaB bd)] 9)) ?_
                intro g cap A4 hown4 hg4 hat4
                have HJ4 := hide (HFJ.out B1 g cap A4 hB1 hown4 hg4 hat4)
                refine hK _ _ ?_
                clear hK K hown4 hg4 hat4
                refine wpAnyIn_ready (rs := [8]) (by kernel_rfl) (by simp) ?_
                refine AllReadyIn.cons rfl (fun K hK => ?_) ?_
                · go_simp
                  refine (callsIn_wide.2 HJ4.out).mono ?_
                  rintro e w5 ⟨rfl, hb5, hd5⟩
                  simp only []
                  refine hK _ _ ?_
                  clear hK K
                  refine wpAnyIn_ready (rs := [9]) (by kernel_rfl) (by simp) ?_
                  refine AllReadyIn.cons rfl (fun K hK => ?_) ?_
                  · go_simp
                    refine hK _ _ ?_
                    clear hK K
                    refine wpAnyIn_done (by kernel_rfl) ?_ _
                    simp only []
                    gi_wp2
                    refine leave_mark hd5 ?_
                    exact ⟨_, by simp [results, Tryz.results91, go_sem], rfl, (Keep.putObj (B := w.heap.size) (.deferred none) (by omega) hd5 rfl).below hb5 (Nat.le_refl _) (Nat.le_refl _)⟩
                  exact AllReadyIn.nil
                exact AllReadyIn.nil
              exact AllReadyIn.nil
            exact AllReadyIn.nil
          exact AllReadyIn.nil
        refine AllReadyIn.cons rfl (fun K hK => ?_) ?_
        · go_simp
          refine (callsIn_wide.2 (HSB.out _ HBL)).mono ?_
          rintro e B1 ⟨rfl, hB1⟩
          rw [← HIB.out]
          have HWB := hW.drew.below hB1
          have c7 := HWB.box
          have c8 := (HWB.alloc (.cells #[.string ⟨rel.toArray⟩, .string (itoaB bd)] 9)).box
          have s0 := (hB1.cell (p := ⟨w.heap.size, 0, none⟩) hRl).trans r0
          simp only []
          refine hK _ _ ?_
          clear hK K
          refine wpAnyIn_ready (rs := [0, 6]) (by kernel_rfl) (by simp) ?_
          refine AllReadyIn.cons rfl (fun K hK => ?_) ?_
          · go_simp
            refine hK _ _ ?_
            clear hK K
            refine wpAnyIn_ready (rs := [6]) (by kernel_rfl) (by simp) ?_
            refine AllReadyIn.cons rfl (fun K hK => ?_) ?_
            · go_simp
              refine hK _ _ ?_
              clear hK K
              refine wpAnyIn_ready (rs := [7]) (by kernel_rfl) (by simp) ?_
              refine AllReadyIn.cons rfl (fun K hK => ?_) ?_
              · refine step_words _ rfl (.tmp 14) (.tmp 20) rfl [⟨rel.toArray⟩, itoaB bd] (HWB.alloc (.cells #[.string ⟨rel.toArray⟩, .string (itoaB bd)] 9)) hxl9 (by simp) (by simp) rfl rfl (World.alloc_heap_new B1 (.cells #[.string ⟨rel.toArray⟩, .string (itoaB bd)] 9)) ?_
                intro g cap A4 hown4 hg4 hat4
                have HJ4 := hide (HFJ.out B1 g cap A4 hB1 hown4 hg4 hat4)
                refine hK _ _ ?_
                clear hK K hown4 hg4 hat4
                refine wpAnyIn_ready (rs := [8]) (by kernel_rfl) (by simp) ?_
                refine AllReadyIn.cons rfl (fun K hK => ?_) ?_
                · go_simp
                  refine (callsIn_wide.2 HJ4.out).mono ?_
                  rintro e w5 ⟨rfl, hb5, hd5⟩
                  simp only []
                  refine hK _ _ ?_
                  clear hK K
                  refine wpAnyIn_ready (rs := [9]) (by kernel_rfl) (by simp) ?_
                  refine AllReadyIn.cons rfl (fun K hK => ?_) ?_
                  · go_simp
                    refine hK _ _ ?_
                    clear hK K
                    refine wpAnyIn_done (by kernel_rfl) ?_ _
                    simp only []
                    gi_wp2
                    refine leave_mark hd5 ?_
                    exact ⟨_, by simp [results, Tryz.results91, go_sem], rfl, (Keep.putObj (B := w.heap.size) (.deferred none) (by omega) hd5 rfl).below hb5 (Nat.le_refl _) (Nat.le_refl _)⟩
                  exact AllReadyIn.nil
                exact AllReadyIn.nil
              exact AllReadyIn.nil
            exact AllReadyIn.nil
          refine AllReadyIn.cons rfl (fun K hK => ?_) ?_
          · go_simp
            refine hK _ _ ?_
            clear hK K
            refine wpAnyIn_ready (rs := [0]) (by kernel_rfl) (by simp) ?_
            refine AllReadyIn.cons rfl (fun K hK => ?_) ?_
            · go_simp
              refine hK _ _ ?_
              clear hK K
              refine wpAnyIn_ready (rs := [7]) (by kernel_rfl) (by simp) ?_
              refine AllReadyIn.cons rfl (fun K hK => ?_) ?_
              · refine step_words _ rfl (.tmp 14) (.tmp 20) rfl [⟨rel.toArray⟩, itoaB bd] (HWB.alloc (.cells #[.string ⟨rel.toArray⟩, .string (itoaB bd)] 9)) hxl9 (by simp) (by simp) rfl rfl (World.alloc_heap_new B1 (.cells #[.string ⟨rel.toArray⟩, .string (itoaB bd)] 9)) ?_
                intro g cap A4 hown4 hg4 hat4
                have HJ4 := hide (HFJ.out B1 g cap A4 hB1 hown4 hg4 hat4)
                refine hK _ _ ?_
                clear hK K hown4 hg4 hat4
                refine wpAnyIn_ready (rs := [8]) (by kernel_rfl) (by simp) ?_
                refine AllReadyIn.cons rfl (fun K hK => ?_) ?_
                · go_simp
                  refine (callsIn_wide.2 HJ4.out).mono ?_
                  rintro e w5 ⟨rfl, hb5, hd5⟩
                  simp only []
                  refine hK _ _ ?_
                  clear hK K
                  refine wpAnyIn_ready (rs := [9]) (by kernel_rfl) (by simp) ?_
                  refine AllReadyIn.cons rfl (fun K hK => ?_) ?_
                  · go_simp
                    refine hK _ _ ?_
                    clear hK K
                    refine wpAnyIn_done (by kernel_rfl) ?_ _
                    simp only []
                    gi_wp2
                    refine leave_mark hd5 ?_
                    exact ⟨_, by simp [results, Tryz.results91, go_sem], rfl, (Keep.putObj (B := w.heap.size) (.deferred none) (by omega) hd5 rfl).below hb5 (Nat.le_refl _) (Nat.le_refl _)⟩
                  exact AllReadyIn.nil
                exact AllReadyIn.nil
              exact AllReadyIn.nil
            exact AllReadyIn.nil
          exact AllReadyIn.nil
        exact AllReadyIn.nil
      refine AllReadyIn.cons rfl (fun K hK => ?_) ?_
      · go_simp
        refine (callsIn_wide.2 (HSB.out _ HBL)).mono ?_
        rintro e B1 ⟨rfl, hB1⟩
        rw [← HIB.out]
        have HWB := hW.drew.below hB1
        have c7 := HWB.box
        have c8 := (HWB.alloc (.cells #[.string ⟨rel.toArray⟩, .string (itoaB bd)] 9)).box
        have s0 := (hB1.cell (p := ⟨w.heap.size, 0, none⟩) hRl).trans r0
        simp only []
        refine hK _ _ ?_
        clear hK K
        refine wpAnyIn_ready (rs := [0, 2]) (by kernel_rfl) (by simp) ?_
        refine AllReadyIn.cons rfl (fun K hK => ?_) ?_
        · go_simp
          refine hK _ _ ?_
          clear hK K
          refine wpAnyIn_ready (rs := [2]) (by kernel_rfl) (by simp) ?_
          refine AllReadyIn.cons rfl (fun K hK => ?_) ?_
          · go_simp
            refine hK _ _ ?_
            clear hK K
            refine wpAnyIn_ready (rs := [6]) (by kernel_rfl) (by simp) ?_
            refine AllReadyIn.cons rfl (fun K hK => ?_) ?_
            · go_simp
              refine hK _ _ ?_
              clear hK K
              refine wpAnyIn_ready (rs := [7]) (by kernel_rfl) (by simp) ?_
              refine AllReadyIn.cons rfl (fun K hK => ?_) ?_
              · refine step_words _ rfl (.tmp 14) (.tmp 20) rfl [⟨rel.toArray⟩, itoaB bd] (HWB.alloc (.cells #[.string ⟨rel.toArray⟩, .string (itoaB bd)] 9)) hxl9 (by simp) (by simp) rfl rfl (World.alloc_heap_new B1 (.cells #[.string ⟨rel.toArray⟩, .string (itoaB bd)] 9)) ?_
                intro g cap A4 hown4 hg4 hat4
                have HJ4 := hide (HFJ.out B1 g cap A4 hB1 hown4 hg4 hat4)
                refine hK _ _ ?_
                clear hK K hown4 hg4 hat4
                refine wpAnyIn_ready (rs := [8]) (by kernel_rfl) (by simp) ?_
                refine AllReadyIn.cons rfl (fun K hK => ?_) ?_
                · go_simp
                  refine (callsIn_wide.2 HJ4.out).mono ?_
                  rintro e w5 ⟨rfl, hb5, hd5⟩
                  simp only []
                  refine hK _ _ ?_
                  clear hK K
                  refine wpAnyIn_ready (rs := [9]) (by kernel_rfl) (by simp) ?_
                  refine AllReadyIn.cons rfl (fun K hK => ?_) ?_
                  · go_simp
                    refine hK _ _ ?_
                    clear hK K
                    refine wpAnyIn_done (by kernel_rfl) ?_ _
                    simp only []
                    gi_wp2
                    refine leave_mark hd5 ?_
                    exact ⟨_, by simp [results, Tryz.results91, go_sem], rfl, (Keep.putObj (B := w.heap.size) (.deferred none) (by omega) hd5 rfl).below hb5 (Nat.le_refl _) (Nat.le_refl _)⟩
                  exact AllReadyIn.nil
                exact AllReadyIn.nil
              exact AllReadyIn.nil
            exact AllReadyIn.nil
          exact AllReadyIn.nil
        refine AllReadyIn.cons rfl (fun K hK => ?_) ?_
        · go_simp
          refine hK _ _ ?_
          clear hK K
          refine wpAnyIn_ready (rs := [0, 6]) (by kernel_rfl) (by simp) ?_
          refine AllReadyIn.cons rfl (fun K hK => ?_) ?_
          · go_simp
            refine hK _ _ ?_
            clear hK K
            refine wpAnyIn_ready (rs := [6]) (by kernel_rfl) (by simp) ?_
            refine AllReadyIn.cons rfl (fun K hK => ?_) ?_
            · go_simp
              refine hK _ _ ?_
              clear hK K
              refine wpAnyIn_ready (rs := [7]) (by kernel_rfl) (by simp) ?_
              refine AllReadyIn.cons rfl (fun K hK => ?_) ?_
              · refine step_words _ rfl (.tmp 14) (.tmp 20) rfl [⟨rel.toArray⟩, itoaB bd] (HWB.alloc (.cells #[.string ⟨rel.toArray⟩, .string (itoaB bd)] 9)) hxl9 (by simp) (by simp) rfl rfl (World.alloc_heap_new B1 (.cells #[.string ⟨rel.toArray⟩, .string (itoaB bd)] 9)) ?_
                intro g cap A4 hown4 hg4 hat4
                have HJ4 := hide (HFJ.out B1 g cap A4 hB1 hown4 hg4 hat4)
                refine hK _ _ ?_
                clear hK K hown4 hg4 hat4
                refine wpAnyIn_ready (rs := [8]) (by kernel_rfl) (by simp) ?_
                refine AllReadyIn.cons rfl (fun K hK => ?_) ?_
                · go_simp
                  refine (callsIn_wide.2 HJ4.out).mono ?_
                  rintro e w5 ⟨rfl, hb5, hd5⟩
                  simp only []
                  refine hK _ _ ?_
                  clear hK K
                  refine wpAnyIn_ready (rs := [9]) (by kernel_rfl) (by simp) ?_
                  refine AllReadyIn.cons rfl (fun K hK => ?_) ?_
                  · go_simp
                    refine hK _ _ ?_
                    clear hK K
                    refine wpAnyIn_done (by kernel_rfl) ?_ _
                    simp only []
                    gi_wp2
                    refine leave_mark hd5 ?_
                    exact ⟨_, by simp [results, Tryz.results91, go_sem], rfl, (Keep.putObj (B := w.heap.size) (.deferred none) (by omega) hd5 rfl).below hb5 (Nat.le_refl _) (Nat.le_refl _)⟩
                  exact AllReadyIn.nil
                exact AllReadyIn.nil
              exact AllReadyIn.nil
            exact AllReadyIn.nil
          refine AllReadyIn.cons rfl (fun K hK => ?_) ?_
          · go_simp
            refine hK _ _ ?_
            clear hK K
            refine wpAnyIn_ready (rs := [0]) (by kernel_rfl) (by simp) ?_
            refine AllReadyIn.cons rfl (fun K hK => ?_) ?_
            · go_simp
              refine hK _ _ ?_
              clear hK K
              refine wpAnyIn_ready (rs := [7]) (by kernel_rfl) (by simp) ?_
              refine AllReadyIn.cons rfl (fun K hK => ?_) ?_
              · refine step_words _ rfl (.tmp 14) (.tmp 20) rfl [⟨rel.toArray⟩, itoaB bd] (HWB.alloc (.cells #[.string ⟨rel.toArray⟩, .string (itoaB bd)] 9)) hxl9 (by simp) (by simp) rfl rfl (World.alloc_heap_new B1 (.cells #[.string ⟨rel.toArray⟩, .string (itoaB bd)] 9)) ?_
                intro g cap A4 hown4 hg4 hat4
                have HJ4 := hide (HFJ.out B1 g cap A4 hB1 hown4 hg4 hat4)
                refine hK _ _ ?_
                clear hK K hown4 hg4 hat4
                refine wpAnyIn_ready (rs := [8]) (by kernel_rfl) (by simp) ?_
                refine AllReadyIn.cons rfl (fun K hK => ?_) ?_
                · go_simp
                  refine (callsIn_wide.2 HJ4.out).mono ?_
                  rintro e w5 ⟨rfl, hb5, hd5⟩
                  simp only []
                  refine hK _ _ ?_
                  clear hK K
                  refine wpAnyIn_ready (rs := [9]) (by kernel_rfl) (by simp) ?_
                  refine AllReadyIn.cons rfl (fun K hK => ?_) ?_
                  · go_simp
                    refine hK _ _ ?_
                    clear hK K
                    refine wpAnyIn_done (by kernel_rfl) ?_ _
                    simp only []
                    gi_wp2
                    refine leave_mark hd5 ?_
                    exact ⟨_, by simp [results, Tryz.results91, go_sem], rfl, (Keep.putObj (B := w.heap.size) (.deferred none) (by omega) hd5 rfl).below hb5 (Nat.le_refl _) (Nat.le_refl _)⟩
                  exact AllReadyIn.nil
                exact AllReadyIn.nil
              exact AllReadyIn.nil
            exact AllReadyIn.nil
          exact AllReadyIn.nil
        exact AllReadyIn.nil
      exact AllReadyIn.nil
    exact AllReadyIn.nil
  case stop =>
    rintro D c k A hD hk h hd
    exact h.elim
  · obtain ⟨i, hi, rfl⟩ := List.mem_map.1 hv
    rfl
end Go.Proofs.YtnhfdcfnojnofaaGreatDoor
