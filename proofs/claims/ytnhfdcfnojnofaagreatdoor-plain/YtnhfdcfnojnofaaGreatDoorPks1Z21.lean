/-
  Part 21 of the texts ahead of Pks1: Dvk3, Dvp3, Dvp4, Dvl3.
-/
import Derived.Test.YtnhfdcfnojnofaaGreatDoorPks1Z20
import Derived.Test.YtnhfdcfnojnofaaGreatDoorPks1Z19
import Derived.Test.YtnhfdcfnojnofaaGreatDoorPks1Z18
set_option linter.unusedSimpArgs false
set_option linter.unusedVariables false
/-
  What takeVars does (package problem).
-/
namespace Go.Proofs.YtnhfdcfnojnofaaGreatDoor
open Go.RowKit

set_option maxHeartbeats 2000000 in
set_option maxRecDepth 100000 in
theorem takeVars_any (s : List UInt8) (hs : s.length ≤ 2000) (gp : Nat) (vC vR : Value) (w : World) (h : DQ w gp Prob.none vC vR) :
    Calls Tryz.prog 238 #[.pointer (some ⟨gp, 0, none⟩), .string ⟨s.toArray⟩] w fun e w' =>
      e = .returned (.bool (decide (T.varsN (words s) ≠ 0))) ∧ Wr (fun k => k = gp) w w' ∧ (T.varsN (words s) ≠ 0 → ∃ vC', DQ w' gp ⟨T.varsN (words s), [], [], []⟩ vC' vR ∧ ∀ k, vC'.ownBlock = some k → w.heap.size ≤ k) := by
  obtain ⟨i0, hi, hz0, hz1, hz2⟩ := info_parts Tryz.infoColumn
  have hgl := h.box.2.2.2.2
  have hbF : Below w.heap.size w ((((w.alloc (.cells #[.int .i64 0] 3)).alloc (.cells #[.string ⟨wVars.toArray⟩] 9)).alloc (.cells #[.pointer (some ⟨w.heap.size, 0, none⟩)] 432)).alloc (.cells #[placeE (w.heap.size + 1), placeN (w.heap.size + 1 + 1)] 429)) := (below3 w _ _ _).alloc (by simp; omega) _
  obtain ⟨t0, t1, t2, t3⟩ := quad_heap w (.cells #[.int .i64 0] 3) (.cells #[.string ⟨wVars.toArray⟩] 9) (.cells #[.pointer (some ⟨w.heap.size, 0, none⟩)] 432) (.cells #[placeE (w.heap.size + 1), placeN (w.heap.size + 1 + 1)] 429)
  have HF := hide (fits_vars s hs (w.heap.size + 1) (w.heap.size + 1 + 1) w.heap.size (w.heap.size + 1 + 1 + 1) 2
    ((((w.alloc (.cells #[.int .i64 0] 3)).alloc (.cells #[.string ⟨wVars.toArray⟩] 9)).alloc (.cells #[.pointer (some ⟨w.heap.size, 0, none⟩)] 432)).alloc (.cells #[placeE (w.heap.size + 1), placeN (w.heap.size + 1 + 1)] 429))
    (by omega) (by omega) (by omega)
    (fun i fv hf => by
      rw [cell_of_row _ _ _ _ _ _ t3]
      match i, hf with
      | 0, hf => simpa using hf
      | 1, hf => simpa using hf
      | i + 2, hf => simp at hf)
    (cell_of_row _ _ _ _ _ _ t1) (by omega) (cell_of_row _ _ _ _ _ _ t2) (by omega) (cell_of_row _ _ _ _ _ _ t0) (frozen_of_row _ _ _ _ _ t0))
  clear t0 t1 t2 t3
  have HD := hide h
  have hvn := varsN_le (words s)
  obtain ⟨n, hn⟩ : ∃ n, T.varsN (words s) = n := ⟨_, rfl⟩
  rw [hn] at HF hvn ⊢
  clear hn h
  go_enter Tryz.func238, Tryz.ntmps238
  go_wp2_with fail
  refine (exactly_mk _ _).mono ?_
  rintro e w1 ⟨rfl, rfl⟩
  go_wp2_with fail
  refine (countInto_mk _ _).mono ?_
  rintro e w1 ⟨rfl, rfl⟩
  go_wp2_with fail
  refine HF.out.mono ?_
  rintro e w2 ⟨rfl, hw2, hc2⟩
  have hwr : Wr (fun k => k = w.heap.size) w w2 := (Wr.of_below hbF).trans hw2
  have hb2 : Below w.heap.size w w2 := hwr.below (Nat.le_refl _) (fun k e => by omega)
  clear hw2 hbF HF hwr
  by_cases h0 : n = 0
  · subst h0
    clear hc2
    go_wp2
    go_ret
    exact ⟨by simp, Wr.of_below hb2, fun h => absurd rfl h⟩
  · have hc := hc2 h0
    clear hc2
    have hD2 := HD.out.below hb2
    have hbx := hD2.box
    obtain ⟨d0, d1, d2, d3, d4⟩ := hbx
    have hdt : decide (n ≠ 0) = true := by simpa using h0
    rw [hdt]
    go_wp2_with (at_make; refine wpList_make_full _ rfl _ _ 106 rfl 0 153 i0 _ 6 Tryz.underlying106 hi hz0 hz1 .i64 .i64 (n : Int) (n : Int) n rfl rfl rfl rfl (by rw [hz2]; omega) (by unfold maxLen; omega) (Nat.zero_le _) ?_; intro w3 hown3 hg3; have hb3 : Below w2.heap.size w2 w3 := (Below.refl _ _).grown hg3 (Nat.le_refl _) (fun k h => by simp at h); have q0 := (hb3.cell (p := ⟨gp, 0, none⟩) d4).trans d0; have q2 := (hb3.frozen (p := ⟨gp, 0, none⟩) d4).trans d2)
    go_ret
    refine ⟨by first | rfl | simp [h0], Wr.setCell (T := fun k => k = gp) (Wr.of_below (hb2.trans (hb3.mono hb2.size))) (p := ⟨gp, 0, none⟩) rfl _, fun _ => ⟨_, (hD2.below hb3).cols_made (whs_made6 hown3) ?_ ?_ (by simp), fun k hk => ?_⟩⟩
    · omega
    · intro e
      have := (((hD2.rows).choose_spec.2.1).lt _ e).2
      omega
    · simp [Value.ownBlock] at hk
      have := hb2.size
      omega
end Go.Proofs.YtnhfdcfnojnofaaGreatDoor

/-
  A condition's line, as fits reads it (package problem).
-/
namespace Go.Proofs.YtnhfdcfnojnofaaGreatDoor
open Go.RowKit

/-- Is a line a condition's, of n variables? -/
def rowB (n : Nat) (ws : List (List UInt8)) : Bool := decide (ws.length = n + 3 ∧ ws.getD 0 [] = wRow ∧ ((ws.drop 1).take n).all dOk = true ∧ isSign (ws.getD (n + 1) []) = true ∧ dOk (ws.getD (n + 2) []) = true)

/-- What each place of such a line takes. -/
def okR (n k : Nat) (x : List UInt8) : Bool := if k = 0 then decide (x = wRow) else if k ≤ n then dOk x else if k = n + 1 then isSign x else dOk x

theorem all_mid {α : Type} (f : α → Bool) (d : α) (ws : List α) (n : Nat) (h : n + 1 ≤ ws.length) : ((ws.drop 1).take n).all f = true ↔ ∀ j, 0 < j → j ≤ n → f (ws.getD j d) = true := by
  rw [List.all_eq_true]
  constructor
  · intro ha j h0 hj
    rw [List.getD_eq_getElem?_getD, List.getElem?_eq_getElem (by omega)]
    refine ha _ ?_
    have : ws[j]'(by omega) = ((ws.drop 1).take n)[j - 1]'(by rw [List.length_take, List.length_drop]; omega) := by
      rw [List.getElem_take, List.getElem_drop]
      congr 1
      omega
    rw [Option.getD_some, this]
    exact List.getElem_mem _
  · intro ha x hx
    obtain ⟨j, hj, rfl⟩ := List.mem_iff_getElem.1 hx
    rw [List.length_take, List.length_drop] at hj
    have := ha (1 + j) (by omega) (by omega)
    rw [List.getD_eq_getElem?_getD, List.getElem?_eq_getElem (by omega)] at this
    rw [List.getElem_take, List.getElem_drop]
    exact this

theorem fitsB_row (n : Nat) (ws : List (List UInt8)) : fitsB (n + 3) (okR n) ws = rowB n ws := by
  unfold fitsB rowB okR
  rw [decide_eq_decide]
  constructor
  · rintro ⟨h1, h2⟩
    refine ⟨h1, ?_, (all_mid dOk [] ws n (by omega)).2 fun j h0 hj => ?_, ?_, ?_⟩
    · simpa using h2 0 (by omega)
    · have := h2 j (by omega)
      rwa [if_neg (by omega), if_pos hj] at this
    · have := h2 (n + 1) (by omega)
      rwa [if_neg (by omega), if_neg (by omega), if_pos rfl] at this
    · have := h2 (n + 2) (by omega)
      rwa [if_neg (by omega), if_neg (by omega), if_neg (by omega)] at this
  · rintro ⟨h1, h2, h3, h4, h5⟩
    refine ⟨h1, fun j hj => ?_⟩
    by_cases h0 : j = 0
    · subst h0; rw [if_pos rfl, h2]; simp
    · rw [if_neg h0]
      by_cases hn : j ≤ n
      · rw [if_pos hn]; exact (all_mid dOk [] ws n (by omega)).1 h3 j (by omega) hn
      · rw [if_neg hn]
        by_cases hj1 : j = n + 1
        · rw [if_pos hj1, hj1]; exact h4
        · rw [if_neg hj1, show j = n + 2 by omega]; exact h5

/-- What lies in memory when the words pre of a condition's line are read: the factors at bf, the rest at gr. -/
def RowSt (n bf gr : Nat) (zs : List Int) (pre : List (List UInt8)) (A : World) : Prop :=
  Whs A bf (putS id 0 zs ((pre.drop 1).take n)) ∧ NoDig A gr ∧ (∃ sr, A.cell? ⟨gr, 0, none⟩ = some (.string sr) ∧ A.frozen? ⟨gr, 0, none⟩ = false ∧ (n + 1 < pre.length → sr = ⟨(pre.getD (n + 1) []).toArray⟩)) ∧
    (∃ z, WholeAt A gr 1 z ∧ (n + 2 < pre.length → z = T.wZ (pre.getD (n + 2) []))) ∧ A.cell? ⟨gr, 3, none⟩ = some (.slice (some ⟨bf, 0, none⟩) n n)

theorem RowSt.keep {B n bf gr : Nat} {zs : List Int} {pre : List (List UInt8)} {w w' : World} (h : RowSt n bf gr zs pre w) (hk : Keep B w w') : RowSt n bf gr zs pre w' := by
  obtain ⟨h1, h2, ⟨sr, h3, h4, h5⟩, ⟨z, h6, h7⟩, h8⟩ := h
  exact ⟨h1.keep hk, h2.keep hk, ⟨sr, hk.cell h3, (hk.frozen h3).trans h4, h5⟩, ⟨z, h6.keep hk, h7⟩, hk.cell h8⟩

theorem RowSt.far {n bf gr : Nat} {zs : List Int} {pre : List (List UInt8)} {w : World} (h : RowSt n bf gr zs pre w) {a : Addr} {y : Value} (hy : w.cell? a = some y) (hn : ∀ k, y ≠ .int .u32 k) (hb : a.block ≠ bf) (hg : a.block ≠ gr) (v : Value) : RowSt n bf gr zs pre (w.setCell a v) := by
  obtain ⟨h1, h2, ⟨sr, h3, h4, h5⟩, ⟨z, h6, h7⟩, h8⟩ := h
  exact ⟨h1.setCell hy hn hb v, h2.far hg v, ⟨sr, (World.cell?_setCell_far _ _ _ _ hg).trans h3, by simpa using h4, h5⟩, ⟨z, h6.setCell hy hn hg v, h7⟩, (World.cell?_setCell_far _ _ _ _ hg).trans h8⟩

/-- Another cell of the block is written. -/
theorem WholeAt.beside {w : World} {b o p : Nat} {z : Int} (h : WholeAt w b o z) {y : Value} (hy : w.cell? ⟨b, p, none⟩ = some y) (hn : ∀ k, y ≠ .int .u32 k) (h0 : p ≠ o) (h1 : p ≠ o + 1) (v : Value) : WholeAt (w.setCell ⟨b, p, none⟩ v) b o z := by
  obtain ⟨x, ao, l, c, k1, k2, k3, k4, k5⟩ := h
  refine ⟨x, ao, l, c, ?_, ?_, k3.setCell hy hn v, by simpa using k4, by simpa using k5⟩
  · rw [World.cell?_setCell_other _ _ _ _ (by intro e; injection e with _ e2; exact h0 e2)]; exact k1
  · rw [World.cell?_setCell_other _ _ _ _ (by intro e; injection e with _ e2; exact h1 e2)]; exact k2

theorem fits_row (s : List UInt8) (hs : s.length ≤ 2000) (q0 qr qb n : Nat) (qs : List Nat) (bf gr : Nat) (zs : List Int) (g cap : Nat) (w : World)
    (hg : g ≠ bf ∧ g ≠ gr) (hn : qs.length = n) (hl : n ≤ 900) (hcap : n + 3 ≤ cap) (hcap9 : cap ≤ 9223372036854775807) (hzl : zs.length = n) (hbg : bf ≠ gr)
    (hrow : ∀ i fv, (placeE q0 :: (qs.map placeW ++ [placeR qr, placeW qb]))[i]? = some fv → w.cell? ⟨g, i, none⟩ = some fv)
    (h0 : w.cell? ⟨q0, 0, none⟩ = some (.string ⟨wRow.toArray⟩)) (hq0 : q0 ≠ bf ∧ q0 ≠ gr)
    (hqs : ∀ j q, qs[j]? = some q → q ≠ bf ∧ q ≠ gr ∧ w.cell? ⟨q, 0, none⟩ = some (.pointer (some ⟨bf, 2 * j, none⟩)))
    (hqr : qr ≠ bf ∧ qr ≠ gr ∧ w.cell? ⟨qr, 0, none⟩ = some (.pointer (some ⟨gr, 0, none⟩)))
    (hqb : qb ≠ bf ∧ qb ≠ gr ∧ w.cell? ⟨qb, 0, none⟩ = some (.pointer (some ⟨gr, 1, none⟩)))
    (hst : RowSt n bf gr zs [] w) :
    Calls Tryz.prog 319 #[.string ⟨s.toArray⟩, .slice (some ⟨g, 0, none⟩) (n + 3) cap] w fun e w' =>
      e = .returned (.bool (rowB n (words s))) ∧ Wr (fun k => k = bf ∨ k = gr) w w' ∧ (rowB n (words s) = true → RowSt n bf gr zs (words s) w') := by
  have hlen : (placeE q0 :: (qs.map placeW ++ [placeR qr, placeW qb])).length = n + 3 := by simp [hn]
  have hbl := hst.1.lt
  have hgl : gr < w.heap.size := hst.2.2.2.1.choose_spec.1.lt
  have hF := fits_any s hs (placeE q0 :: (qs.map placeW ++ [placeR qr, placeW qb])) (okR n) (fun k => k = bf ∨ k = gr) (RowSt n bf gr zs) g cap w
    (fun x hx => by rcases hx with rfl | rfl <;> assumption) (fun e => by rcases e with e | e; exact hg.1 e; exact hg.2 e) (by omega) (by omega) hcap9 hrow (fun pre A B hA hk => hA.keep hk) (fun pre A a y v hA hy hn ha => hA.far hy hn (by omega) (by omega) v) ?_ hst
  · rw [hlen, fitsB_row] at hF
    exact hF
  · intro k fv hfv
    have hnT : ∀ {q : Nat}, q ≠ bf → q ≠ gr → ¬ (q = bf ∨ q = gr) := fun h1 h2 e => by rcases e with e | e; exact h1 e; exact h2 e
    by_cases hk0 : k = 0
    · subst hk0
      simp at hfv
      subst hfv
      refine ⟨_, q0, rfl, enters_E, fun pre x W hp hx hw hst => ?_⟩
      refine (exactly_call x wRow q0 W (hw.cell (p := ⟨q0, 0, none⟩) (hnT hq0.1 hq0.2) h0)).mono ?_
      rintro e W' ⟨rfl, rfl⟩
      refine ⟨rfl, Wr.refl _ _, fun _ => ?_⟩
      obtain rfl : pre = [] := List.eq_nil_of_length_eq_zero hp
      obtain ⟨a1, a2, ⟨sr, a3, a4, a5⟩, ⟨z, a6, a7⟩, a8⟩ := hst
      exact ⟨a1, a2, ⟨sr, a3, a4, fun e => by simp at e⟩, ⟨z, a6, fun e => by simp at e⟩, a8⟩
    · obtain ⟨j, rfl⟩ : ∃ j, k = j + 1 := ⟨k - 1, by omega⟩
      rw [List.getElem?_cons_succ] at hfv
      by_cases hjn : j < n
      · rw [List.getElem?_append_left (by simp; omega), List.getElem?_map, List.getElem?_eq_getElem (by omega)] at hfv
        injection hfv with hfv
        subst hfv
        obtain ⟨hq1, hq2, hq3⟩ := hqs j _ (List.getElem?_eq_getElem (by omega))
        generalize qs[j] = q at *
        refine ⟨_, q, rfl, enters_W, fun pre x W hp hx hw hst => ?_⟩
        obtain ⟨a1, a2, ⟨sr, a3, a4, a5⟩, ⟨z, a6, a7⟩, a8⟩ := hst
        refine (whole_place x q bf j (2 * j) _ W (hw.cell (p := ⟨q, 0, none⟩) (hnT hq1 hq2) hq3) rfl a1 (by rw [putS_len]; omega) hq1 hx).mono ?_
        rintro e W' ⟨rfl, hw', hz'⟩
        have hok : okR n (j + 1) x = dOk x := by unfold okR; rw [if_neg (by omega), if_pos (by omega)]
        rw [hok]
        refine ⟨rfl, hw'.mono (fun k e => Or.inl e), fun hd => ?_⟩
        have hnd : ∀ k, k = bf → NoDig W k := fun k e => e ▸ a1.1
        refine ⟨?_, a2.wr hw' (Ne.symm hbg), ⟨sr, hw'.cell (p := ⟨gr, 0, none⟩) (Ne.symm hbg) a3, (hw'.frozen (p := ⟨gr, 0, none⟩) (Ne.symm hbg) (block_lt_of_cell a3)).trans a4, fun e => ?_⟩, ⟨z, a6.wr hw' (Ne.symm hbg) hnd, fun e => ?_⟩, hw'.cell (p := ⟨gr, 3, none⟩) (Ne.symm hbg) a8⟩
        · have e0 : (pre.drop 1).length = j := by rw [List.length_drop]; omega
          have e1 : ((pre ++ [x]).drop 1).take n = pre.drop 1 ++ [x] := by
            rw [List.drop_append_of_le_length (by omega), List.take_of_length_le (by rw [List.length_append, e0]; simp; omega)]
          have e2 : (pre.drop 1).take n = pre.drop 1 := List.take_of_length_le (by omega)
          rw [e2] at hz'
          rw [e1, putS_snoc, e0, Nat.zero_add]
          exact hz' hd
        · simp at e; omega
        · simp at e; omega
      · rw [List.getElem?_append_right (by simp; omega), List.length_map, hn] at hfv
        by_cases hjr : j = n
        · subst hjr
          simp at hfv
          subst hfv
          refine ⟨_, qr, rfl, enters_R, fun pre x W hp hx hw hst => ?_⟩
          obtain ⟨a1, a2, ⟨sr, a3, a4, a5⟩, ⟨z, a6, a7⟩, a8⟩ := hst
          refine (relationInto_call x qr gr sr W (hw.cell (p := ⟨qr, 0, none⟩) (hnT hqr.1 hqr.2.1) hqr.2.2) a3 a4).mono ?_
          rintro e W' ⟨rfl, hw', hs'⟩
          have hok : okR j (j + 1) x = isSign x := by unfold okR; rw [if_neg (by omega), if_neg (by omega), if_pos rfl]
          rw [hok]
          refine ⟨rfl, hw'.mono (fun k e => Or.inr e), fun hd => ?_⟩
          obtain ⟨w1, hb1, rfl⟩ := hs' hd
          have hkp : Keep 0 W w1 := Keep.of_below hb1
          have c0 := hkp.cell a3
          refine ⟨?_, (a2.keep hkp).setCell c0 (by simp), ⟨⟨x.toArray⟩, World.cell?_setCell_same _ _ _ c0, by simpa using (hkp.frozen a3).trans a4, fun _ => ?_⟩, ⟨z, (a6.keep hkp).beside c0 (by simp) (by omega) (by omega) _, fun e => ?_⟩, ?_⟩
          · have e2 : ((pre ++ [x]).drop 1).take j = (pre.drop 1).take j := by
              rw [List.drop_append_of_le_length (by omega), List.take_append_of_le_length (by rw [List.length_drop]; omega)]
            rw [e2]
            exact (a1.keep hkp).setCell (a := ⟨gr, 0, none⟩) c0 (by simp) (Ne.symm hbg) _
          · rw [List.getD_eq_getElem?_getD, List.getElem?_append_right (by omega), hp]
            simp
          · simp at e; omega
          · rw [World.cell?_setCell_other _ _ _ _ (by simp)]; exact hkp.cell a8
        · have hjr1 : j = n + 1 := by
            have := (List.getElem?_eq_some_iff.1 hfv).1
            simp at this
            omega
          subst hjr1
          have e3 : n + 1 - n = 1 := by omega
          rw [e3] at hfv
          simp at hfv
          subst hfv
          refine ⟨_, qb, rfl, enters_W, fun pre x W hp hx hw hst => ?_⟩
          obtain ⟨a1, a2, ⟨sr, a3, a4, a5⟩, ⟨z, a6, a7⟩, a8⟩ := hst
          refine (wholeInto_call x qb gr 1 z W (hw.cell (p := ⟨qb, 0, none⟩) (hnT hqb.1 hqb.2.1) hqb.2.2) a6 hqb.2.1 (by omega)).mono ?_
          rintro e W' ⟨rfl, w1, y, ao, l, c, hb1, rfl, hv⟩
          have hok : okR n (n + 1 + 1) x = dOk x := by unfold okR; rw [if_neg (by omega), if_neg (by omega), if_neg (by omega)]
          rw [hok]
          refine ⟨rfl, ((Wr.of_below (T := fun k => k = bf ∨ k = gr) hb1).setCell (p := ⟨gr, 1, none⟩) (Or.inr rfl) _).setCell (p := ⟨gr, 1 + 1, none⟩) (Or.inr rfl) _, fun hd => ?_⟩
          have hkp : Keep 0 W w1 := Keep.of_below hb1
          obtain ⟨x0, a0, l0, c0, k0, k1, _⟩ := a6.keep hkp
          have k1' : (w1.setCell ⟨gr, 1, none⟩ (.bool y)).cell? ⟨gr, 1 + 1, none⟩ = some (.slice a0 l0 c0) := by
            rw [World.cell?_setCell_other _ _ _ _ (by simp)]; exact k1
          refine ⟨?_, ((a2.keep hkp).setCell k0 (by simp)).setCell k1' (by simp), ⟨sr, ?_, by simpa using (hkp.frozen a3).trans a4, fun _ => ?_⟩, ⟨_, (a6.keep hkp).put (a2.keep hkp) (hv hd), fun _ => ?_⟩, ?_⟩
          · have e2 : ((pre ++ [x]).drop 1).take n = (pre.drop 1).take n := by
              rw [List.drop_append_of_le_length (by omega), List.take_append_of_le_length (by rw [List.length_drop]; omega)]
            rw [e2]
            exact ((a1.keep hkp).setCell (a := ⟨gr, 1, none⟩) k0 (by simp) (Ne.symm hbg) _).setCell (a := ⟨gr, 1 + 1, none⟩) k1' (by simp) (Ne.symm hbg) _
          · rw [World.cell?_setCell_other _ _ _ _ (by simp), World.cell?_setCell_other _ _ _ _ (by simp)]
            exact hkp.cell a3
          · have := a5 (by omega)
            rw [this, List.getD_eq_getElem?_getD, List.getD_eq_getElem?_getD, List.getElem?_append_left (by omega)]
          · rw [List.getD_eq_getElem?_getD, List.getElem?_append_right (by omega), hp]
            simp
          · rw [World.cell?_setCell_other _ _ _ _ (by simp), World.cell?_setCell_other _ _ _ _ (by simp)]
            exact hkp.cell a8
end Go.Proofs.YtnhfdcfnojnofaaGreatDoor

/-
  What places write into a row of whole numbers, held against what the document asks.
-/
namespace Go.Proofs.YtnhfdcfnojnofaaGreatDoor
open Go.RowKit

theorem putS_out (pos : Nat → Nat) (i : Nat) : ∀ (r : List (List UInt8)) (k : Nat) (zs : List Int), (∀ j, j < r.length → pos (k + j) ≠ i) → (putS pos k zs r).getD i 0 = zs.getD i 0
  | [], k, zs, _ => rfl
  | x :: r, k, zs, h => by
    rw [putS, putS_out pos i r (k + 1) _ (fun j hj => by have := h (j + 1) (by simp; omega); rwa [show k + (j + 1) = k + 1 + j by omega] at this)]
    have h0 := h 0 (by simp)
    rw [Nat.add_zero] at h0
    simp only [List.getD_eq_getElem?_getD, List.getElem?_set_ne h0]

theorem putS_in (pos : Nat → Nat) (hi : ∀ a b, pos a = pos b → a = b) : ∀ (r : List (List UInt8)) (k : Nat) (zs : List Int) (j : Nat), j < r.length → pos (k + j) < zs.length → (putS pos k zs r).getD (pos (k + j)) 0 = T.wZ (r.getD j [])
  | [], k, zs, j, hj, _ => by simp at hj
  | x :: r, k, zs, 0, _, hp => by
    rw [Nat.add_zero] at hp ⊢
    rw [putS, putS_out pos _ r (k + 1) _ (fun j hj e => by have := hi _ _ e; omega)]
    simp only [List.getD_eq_getElem?_getD, List.getElem?_set_self hp]
    rfl
  | x :: r, k, zs, j + 1, hj, hp => by
    rw [putS, show k + (j + 1) = k + 1 + j by omega, putS_in pos hi r (k + 1) _ j (by simpa using hj) (by rw [List.length_set, show k + 1 + j = k + (j + 1) by omega]; exact hp)]
    simp

theorem putS_all {zs : List Int} {r : List (List UInt8)} (h : zs.length = r.length) : putS id 0 zs r = r.map T.wZ := by
  refine List.ext_getElem (by rw [putS_len, List.length_map, h]) fun j h1 h2 => ?_
  rw [List.length_map] at h2
  have h3 := putS_in id (fun a b e => e) r 0 zs j h2 (by simp; omega)
  simp only [id, Nat.zero_add, List.getD_eq_getElem?_getD, List.getElem?_eq_getElem h1, List.getElem?_eq_getElem h2, Option.getD_some] at h3
  rw [h3, List.getElem_map]

theorem cols_max {p : Prob} {zs : List Int} {ws : List (List UInt8)} (h : ColsOk p zs) (hrg : p.rg = []) (hl : ws.length = p.n + 1) : ColsOk { p with mx := (ws.drop 1).map T.wZ } (putS (fun j => 3 * j) 0 zs (ws.drop 1)) := by
  have hd : (ws.drop 1).length = p.n := by rw [List.length_drop]; omega
  refine ⟨by rw [putS_len]; exact h.1, fun k hk => ?_, fun k hk => by simp [hrg] at hk⟩
  have hk2 : k < p.n := by simp at hk; omega
  have := putS_in (fun j => 3 * j) (fun a b e => by have e' : 3 * a = 3 * b := e; omega) (ws.drop 1) 0 zs k (by omega) (by have := h.1; simp; omega)
  simp only [Nat.zero_add] at this
  rw [this]
  simp only [List.getD_eq_getElem?_getD, List.getElem?_map, List.getElem?_eq_getElem (show k < (ws.drop 1).length by omega), Option.map_some, Option.getD_some]

theorem cols_range {p : Prob} {zs : List Int} {ws : List (List UInt8)} {m : Nat} (h : ColsOk p zs) (hm : p.rg.length = m) (hmn : m < p.n) (hl : ws.length = 3) :
    ColsOk { p with rg := p.rg ++ [(T.wZ (ws.getD 1 []), T.wZ (ws.getD 2 []))] } (putS (fun j => 3 * m + 1 + j) 0 zs (ws.drop 1)) := by
  have hd : (ws.drop 1).length = 2 := by rw [List.length_drop]; omega
  have hin := putS_in (fun j => 3 * m + 1 + j) (fun a b e => by have e' : 3 * m + 1 + a = 3 * m + 1 + b := e; omega) (ws.drop 1) 0 zs
  have g1 : (ws.drop 1).getD 0 [] = ws.getD 1 [] := by simp [List.getD_eq_getElem?_getD]
  have g2 : (ws.drop 1).getD 1 [] = ws.getD 2 [] := by simp [List.getD_eq_getElem?_getD]
  refine ⟨by rw [putS_len]; exact h.1, fun k hk => ?_, fun k hk => ?_⟩
  · rw [putS_out _ _ _ _ _ (fun j hj e => by simp at e; omega)]
    exact h.2.1 k hk
  · simp only [List.length_append, List.length_singleton] at hk
    by_cases hkm : k < m
    · rw [putS_out _ _ _ _ _ (fun j hj e => by simp at e; omega), putS_out _ _ _ _ _ (fun j hj e => by simp at e; omega)]
      have := h.2.2 k (by omega)
      simp only [List.getD_eq_getElem?_getD, List.getElem?_append_left (show k < p.rg.length by omega)] at this ⊢
      exact this
    · obtain rfl : k = m := by omega
      have i0 := hin 0 (by omega) (by have := h.1; simp; omega)
      have i1 := hin 1 (by omega) (by have := h.1; simp; omega)
      simp only [Nat.zero_add, Nat.add_zero] at i0 i1
      rw [g1] at i0
      rw [g2] at i1
      rw [i0, show 3 * k + 2 = 3 * k + 1 + 1 by omega, i1]
      simp only [List.getD_eq_getElem?_getD, List.getElem?_append_right (show p.rg.length ≤ k by omega), hm, Nat.sub_self]
      exact ⟨rfl, rfl⟩
end Go.Proofs.YtnhfdcfnojnofaaGreatDoor

/-
  The last two places of a condition's line (package problem).
-/
namespace Go.Proofs.YtnhfdcfnojnofaaGreatDoor
open Go.RowKit

/-- The same, where the end is told by its kind alone. -/
theorem wpIn_calm2 {F : Fence} {n : Nat} {P : Program} {c : Code} {Q : Exit → Act → World → Prop} {a : Act} {w : World} (h : c.wpIn F n P (fun e a w => match e with | .normal => Q .normal a w | _ => False) a w) : c.wpIn F n P Q a w :=
  wpIn_mono h (fun e a w h => by cases e with | normal => exact h | _ => exact h.elim)

/-- What holds when the last two places are laid. -/
def TwoP (B : Nat) (w A3 AA : World) (a gpl q0 : Nat) (wd : List UInt8) (qs : List Nat) (pt : Nat → Addr) (xs : List Nat) (own : Option Nat) (g cap : Nat) (y1 y2 : Value) : Prop :=
  Below B w AA ∧ Wr (fun x => x = gpl ∨ own = some x) A3 AA ∧
    (∀ i fv, (placeE q0 :: (qs.map placeW ++ [placeR a, placeW (a + 1)]))[i]? = some fv → AA.cell? ⟨g, i, none⟩ = some fv) ∧
    AA.cell? ⟨gpl, 0, none⟩ = some (.slice (some ⟨g, 0, none⟩) (qs.length + 1 + 2) cap) ∧ AA.cell? ⟨q0, 0, none⟩ = some (.string ⟨wd.toArray⟩) ∧
    (∀ j q, qs[j]? = some q → AA.cell? ⟨q, 0, none⟩ = some (.pointer (some (pt j)))) ∧ AA.cell? ⟨a, 0, none⟩ = some y1 ∧ AA.cell? ⟨a + 1, 0, none⟩ = some y2 ∧
    B ≤ g ∧ (∀ x ∈ gpl :: q0 :: (qs ++ xs), g ≠ x) ∧ qs.length + 3 ≤ cap ∧ cap ≤ 9223372036854775807

theorem two_places {B : Nat} {w A A3 A' : World} {gpl q0 g cap : Nat} {wd : List UInt8} {qs : List Nat} {pt : Nat → Addr} {xs : List Nat} {ap : Option Addr} {kp : Nat} {y1 y2 : Value} (hP : Pls B w A gpl q0 wd qs pt xs ap kp) (hk : Keep B A A3) (hs3 : A3.heap.size = A.heap.size + 1 + 1 + 1)
    (h1 : A3.cell? ⟨A.heap.size, 0, none⟩ = some y1) (h2 : A3.cell? ⟨A.heap.size + 1, 0, none⟩ = some y2)
    (hown : A'.ownsRow B 429 1 (.slice (some ⟨g, 0, none⟩) (qs.length + 1 + 2) cap) (qs.length + 1 + 2) (placeE q0 :: qs.map placeW ++ [placeR A.heap.size, placeW (A.heap.size + 1)])) (hg : A3.grownBy A' (Value.slice ap (qs.length + 1) kp).ownBlock) (hat : (Value.slice ap (qs.length + 1) kp).ownBlock = some g ∨ g = A3.heap.size) :
    A'.cell? ⟨gpl, 0, none⟩ = some (.slice ap (qs.length + 1) kp) ∧ A'.frozen? ⟨gpl, 0, none⟩ = false ∧ Hid (TwoP B w A3 (A'.setCell ⟨gpl, 0, none⟩ (.slice (some ⟨g, 0, none⟩) (qs.length + 1 + 2) cap)) A.heap.size gpl q0 wd qs pt xs (Value.slice ap (qs.length + 1) kp).ownBlock g cap y1 y2) := by
  have hP3 := hP.keep hk (Nat.le_refl _)
  have hno : ∀ {x : Nat}, x ∈ gpl :: q0 :: (qs ++ xs) → ¬ (Value.slice ap (qs.length + 1) kp).ownBlock = some x := fun hx e => hP.sep _ e _ hx rfl
  have hold : ∀ {x : Nat}, A.heap.size ≤ x → ¬ (Value.slice ap (qs.length + 1) kp).ownBlock = some x := fun hx e => by have := (hP.own.lt _ e).2; omega
  have hw : Wr (fun x => (Value.slice ap (qs.length + 1) kp).ownBlock = some x) A3 A' := ⟨hg.os, hg.tape, hg.output, hg.size, fun k hk e => hg.block k hk (fun e2 => e e2.symm)⟩
  have hgpl3 := hP3.lt gpl (by simp)
  have hgx : ∀ x ∈ gpl :: q0 :: (qs ++ xs), g ≠ x := by
    intro x hx
    rcases hat with e | e
    · exact hP.sep g e x hx
    · have := hP3.lt x hx; omega
  have hgplA : gpl < A.heap.size := hP.lt gpl (by simp)
  have hbox' := hw.cell (p := ⟨gpl, 0, none⟩) (hno (by simp)) hP3.box
  have hB' : Below B w A' := ⟨hg.os.trans hP3.bel.os, hg.tape.trans hP3.bel.tape, hg.output.trans hP3.bel.output, Nat.le_trans hP3.bel.size hg.size, fun k hk' => (hg.block k (by have := hP3.bel.size; have := hP.le; omega) (fun e => by have := (hP.own.lt k e.symm).1; omega)).trans (hP3.bel.block k hk')⟩
  have hcl : ∀ i fv, (placeE q0 :: (qs.map placeW ++ [placeR A.heap.size, placeW (A.heap.size + 1)]))[i]? = some fv → A'.cell? ⟨g, i, none⟩ = some fv := by
    intro i fv hi
    have h5 := hown.cells (g := g) rfl i fv (by simpa using hi)
    have e : (⟨g, 0, none⟩ : Addr).add i = ⟨g, i, none⟩ := by
      unfold Addr.add
      split
      · rename_i hz; rw [hz]
      · simp
    rw [e] at h5
    exact h5
  obtain ⟨hBg, hcap, hcap9⟩ : B ≤ g ∧ qs.length + 3 ≤ cap ∧ cap ≤ 9223372036854775807 := by
    obtain ⟨h0, h1 | ⟨g', cap', cur, hv, hb, hh, hn, h4, h5, h6⟩⟩ := hown
    · exact absurd h1.1 (by simp)
    · simp only [Value.slice.injEq, Option.some.injEq, Addr.mk.injEq] at hv
      obtain ⟨⟨rfl, _, _⟩, _, rfl⟩ := hv
      exact ⟨hb, by omega, by unfold maxLen at h4; omega⟩
  have hgpl : g ≠ gpl := hgx gpl (by simp)
  refine ⟨hbox', ?_, hB'.setCell (p := ⟨gpl, 0, none⟩) hP.new.1 _, ?_, fun i fv hi => ?_, World.cell?_setCell_same _ _ _ hbox', ?_, fun j q hj => ?_, ?_, ?_, hBg, hgx, hcap, hcap9⟩
  · have h3 : A'.frozen? ⟨gpl, 0, none⟩ = A3.frozen? ⟨gpl, 0, none⟩ := World.frozen?_of_block (w := A3) (hw.block gpl hgpl3 (hno (by simp)))
    exact h3.trans hP3.fro
  · exact Wr.setCell (T := fun x => x = gpl ∨ (Value.slice ap (qs.length + 1) kp).ownBlock = some x) (hw.mono (fun k e => Or.inr e)) (p := ⟨gpl, 0, none⟩) (Or.inl rfl) _
  · rw [World.cell?_setCell_far _ _ _ _ (by simpa using Ne.symm hgpl)]
    exact hcl i fv hi
  · rw [World.cell?_setCell_far _ _ _ _ (by simpa using hP.new.2.1)]
    exact hw.cell (p := ⟨q0, 0, none⟩) (hno (by simp)) hP3.q0c
  · have hm : q ∈ qs := List.mem_of_getElem? hj
    rw [World.cell?_setCell_far _ _ _ _ (by simpa using Ne.symm (hP.new.2.2.2 q hm).2)]
    exact hw.cell (p := ⟨q, 0, none⟩) (hno (by simp [hm])) (hP3.qsc j q hj)
  · rw [World.cell?_setCell_far _ _ _ _ (by simp; omega)]
    exact hw.cell (p := ⟨A.heap.size, 0, none⟩) (hold (Nat.le_refl _)) h1
  · rw [World.cell?_setCell_far _ _ _ _ (by simp; omega)]
    exact hw.cell (p := ⟨A.heap.size + 1, 0, none⟩) (hold (by simp)) h2
end Go.Proofs.YtnhfdcfnojnofaaGreatDoor
