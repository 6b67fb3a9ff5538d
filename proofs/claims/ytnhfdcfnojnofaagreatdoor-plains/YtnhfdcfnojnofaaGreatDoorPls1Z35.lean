/-
  Part 35 of the texts ahead of Pls1: Ts11, Ts12, Ts13.
-/
import Derived.Test.YtnhfdcfnojnofaaGreatDoorPls1Z34
import Derived.Deep.RegionLaw
set_option linter.unusedSimpArgs false
set_option linter.unusedVariables false
/-
  What the document's own take does (package planesref): what is no range.
-/
namespace Go.Proofs.YtnhfdcfnojnofaaGreatDoor.T
open Go.RowKit

set_option maxHeartbeats 2000000 in
set_option maxRecDepth 100000 in
theorem take_range_no (W1 w : World) (gp n i : Nat) (v : Value) (ls : List ByteArray) (mx lo hi : List Int) (rows : List (List Int × List UInt8 × Int)) (vM vL vH vC : Value) (h : RQ W1 w gp n mx lo hi rows vM vL vH vC) (hv : Sv w v ls) (hl0 : 0 < ls.length) (hn : ls.length ≤ 1000000) (hsz : ∀ l ∈ ls, l.size ≤ 1000000000) (hn4 : 0 < n ∧ n ≤ 4) (hi2 : 2 ≤ i) (hin : i ≤ 1 + n)
    (hno : ¬ (ls.length = 3 ∧ (ls.getD 0 ⟨#[]⟩).toList = [114, 97, 110, 103, 101] ∧ (ls.drop 1).all (fun l => wOk l.data.toList) = true)) :
    Calls Tryz.prog 112 #[.pointer (some ⟨gp, 0, none⟩), .int .i64 (i : Nat), v] w fun e w' => e = .returned (.bool false) ∧ Wr (fun k => k = gp) W1 w' := by
  obtain ⟨h0, h1, h2, h3, h4, f0, f1, f2, f3, f4⟩ := h.box
  have hv0 := hv
  obtain ⟨ao, cap, rfl⟩ := hv.shape
  obtain ⟨g, off, rfl, hg, hrow⟩ := hv.row (by intro e; rw [e] at hl0; simp at hl0)
  have c0 := hrow 0 hl0
  rw [Nat.add_zero] at c0
  have hcap : ls.length ≤ cap := by
    rcases hv with ⟨e, _⟩ | ⟨_, _, _, e, e2, _⟩
    · simp at e
    · simp only [Value.slice.injEq] at e
      omega
  obtain ⟨t1, t2⟩ := hv0.tail1 (ls.length - 1) (by omega)
  have hd : (ls.drop 1).take (ls.length - 1) = ls.drop 1 := List.take_of_length_le (by simp)
  rw [hd] at t1 t2
  have hdl : (ls.drop 1).length = ls.length - 1 := by simp
  have HWH := hide (fun (W : World) (u : Value) (hu : Sv W u (ls.drop 1)) => wholes_any W u (ls.drop 1) hu (fun l hl => hsz l (List.mem_of_mem_drop hl)) (by omega))
  obtain ⟨s0, hs0⟩ : ∃ s0, ls.getD 0 ⟨#[]⟩ = s0 := ⟨_, rfl⟩
  rw [hs0] at c0 hno
  obtain ⟨al, hal⟩ : ∃ al, ((ls.drop 1).all fun l => wOk l.data.toList) = al := ⟨_, rfl⟩
  rw [hal] at HWH hno
  obtain ⟨m, hm⟩ : ∃ m, ls.length = m + 1 := ⟨ls.length - 1, by omega⟩
  have hm1 : ls.length - 1 = m := by omega
  rw [hm1] at t1 t2 hdl
  have HDL := hide hdl
  have T1 := hide t1
  have T2 := hide t2
  clear t1 t2 hal hd hdl hrow hsz hv hv0 hm1
  rw [hm] at hn hcap hno ⊢
  clear hm hl0
  have hi1 : ¬ ((i : Int) = 0) := by omega
  have hi1' : ¬ ((i : Int) = 1) := by omega
  have hi3 : ¬ (1 + (n : Int) < (i : Int)) := by omega
  have hi4 : (i : Int) ≤ 1 + (n : Int) := by omega
  by_cases hc1 : cap = 1
  · obtain ⟨hm0, hu⟩ := T2.out hc1
    subst hc1
    obtain rfl : m = 0 := hm0
    by_cases hal : al = true
    · subst hal
      have hwh := HWH.out
      simp only [forall_const] at hwh
      have HW2 := hide hwh
      clear hwh HWH
      by_cases hs : s0.toList = [114, 97, 110, 103, 101]
      · have hm2 : ¬ 0 = 2 := by intro e; exact hno ⟨by omega, hs, (by first | exact trivial | rfl)⟩
        have hm2' : ¬ ((0 : Nat) : Int) = 2 := by omega
        go_enter Tryz.func112, Tryz.ntmps112
        go_wp2_with fail
        refine (HW2.out w _ hu).mono ?_
        rintro e w1 ⟨x, rfl, ⟨hx1, hfr⟩, _, hb1⟩
        have hxl := hx1.shape
        rw [List.length_map, HDL.out] at hxl
        obtain ⟨xo, xc, rfl⟩ := hxl
        have hR := h.below hb1
        obtain ⟨k0, k1, k2, k3, k4, e0, e1, e2, e3, e4⟩ := hR.box
        have c1 := (hb1.cell (p := ⟨g, off, none⟩) hg).trans c0
        go_wp2
        go_ret
        exact ⟨rfl, hR.wr⟩
      · go_enter Tryz.func112, Tryz.ntmps112
        go_wp2_with fail
        refine (HW2.out w _ hu).mono ?_
        rintro e w1 ⟨x, rfl, ⟨hx1, hfr⟩, _, hb1⟩
        have hxl := hx1.shape
        rw [List.length_map, HDL.out] at hxl
        obtain ⟨xo, xc, rfl⟩ := hxl
        have hR := h.below hb1
        obtain ⟨k0, k1, k2, k3, k4, e0, e1, e2, e3, e4⟩ := hR.box
        have c1 := (hb1.cell (p := ⟨g, off, none⟩) hg).trans c0
        go_wp2
        go_ret
        exact ⟨rfl, hR.wr⟩
    · have hal' : al = false := by simpa using hal
      subst hal'
      go_enter Tryz.func112, Tryz.ntmps112
      go_wp2_with fail
      refine (HWH.out w _ hu).mono ?_
      rintro e w1 ⟨x, rfl, _, hx2, hb1⟩
      obtain rfl := hx2 (by first | exact trivial | rfl)
      have hR := h.below hb1
      obtain ⟨k0, k1, k2, k3, k4, e0, e1, e2, e3, e4⟩ := hR.box
      go_wp2
      go_ret
      exact ⟨rfl, hR.wr⟩
  · have hu := T1.out hc1
    by_cases hal : al = true
    · subst hal
      have hwh := HWH.out
      simp only [forall_const] at hwh
      have HW2 := hide hwh
      clear hwh HWH
      by_cases hs : s0.toList = [114, 97, 110, 103, 101]
      · have hm2 : ¬ m = 2 := by intro e; exact hno ⟨by omega, hs, (by first | exact trivial | rfl)⟩
        have hm2' : ¬ ((m : Nat) : Int) = 2 := by omega
        go_enter Tryz.func112, Tryz.ntmps112
        go_wp2_with fail
        refine (HW2.out w _ hu).mono ?_
        rintro e w1 ⟨x, rfl, ⟨hx1, hfr⟩, _, hb1⟩
        have hxl := hx1.shape
        rw [List.length_map, HDL.out] at hxl
        obtain ⟨xo, xc, rfl⟩ := hxl
        have hR := h.below hb1
        obtain ⟨k0, k1, k2, k3, k4, e0, e1, e2, e3, e4⟩ := hR.box
        have c1 := (hb1.cell (p := ⟨g, off, none⟩) hg).trans c0
        go_wp2
        go_ret
        exact ⟨rfl, hR.wr⟩
      · go_enter Tryz.func112, Tryz.ntmps112
        go_wp2_with fail
        refine (HW2.out w _ hu).mono ?_
        rintro e w1 ⟨x, rfl, ⟨hx1, hfr⟩, _, hb1⟩
        have hxl := hx1.shape
        rw [List.length_map, HDL.out] at hxl
        obtain ⟨xo, xc, rfl⟩ := hxl
        have hR := h.below hb1
        obtain ⟨k0, k1, k2, k3, k4, e0, e1, e2, e3, e4⟩ := hR.box
        have c1 := (hb1.cell (p := ⟨g, off, none⟩) hg).trans c0
        go_wp2
        go_ret
        exact ⟨rfl, hR.wr⟩
    · have hal' : al = false := by simpa using hal
      subst hal'
      go_enter Tryz.func112, Tryz.ntmps112
      go_wp2_with fail
      refine (HWH.out w _ hu).mono ?_
      rintro e w1 ⟨x, rfl, _, hx2, hb1⟩
      obtain rfl := hx2 (by first | exact trivial | rfl)
      have hR := h.below hb1
      obtain ⟨k0, k1, k2, k3, k4, e0, e1, e2, e3, e4⟩ := hR.box
      go_wp2
      go_ret
      exact ⟨rfl, hR.wr⟩
end Go.Proofs.YtnhfdcfnojnofaaGreatDoor.T

/-
  What the document's own take does (package planesref): a row.
-/
namespace Go.Proofs.YtnhfdcfnojnofaaGreatDoor.T
open Go.RowKit

theorem Tryz.infoCond : (Tryz.prog.info? 206).map (fun i => (i.zero, i.size, i.bytes)) = some (some (.agg #[.slice none 0 0, .string ⟨#[]⟩, .bool false, .slice none 0 0, .slice none 0 0]), 5, 96) := by kernel_rfl

/-- One number of a list, as it lies. -/
theorem Nums.one {w : World} {v : Value} {a : Int × Nat} (h : Nums w v [a]) : ∃ g off cap, ∃ x : Tri, v = .slice (some ⟨g, off, none⟩) 1 cap ∧ 1 ≤ cap ∧ NumV w x.val a.1 a.2 ∧ (w.cell? ⟨g, off, none⟩ = some (.bool x.b) ∧ w.cell? ⟨g, off + 1, none⟩ = some x.up ∧ w.cell? ⟨g, off + 2, none⟩ = some x.down) := by
  obtain ⟨ts, hl, hn, hr⟩ := h
  obtain ⟨x, rfl⟩ : ∃ x, ts = [x] := by
    match ts, hl with
    | [x], _ => exact ⟨x, rfl⟩
  rcases hr with ⟨_, e⟩ | ⟨g, off, cap, hv, hc, _, h4⟩
  · cases e
  · obtain ⟨a0, a1, a2⟩ := h4 0 x rfl
    exact ⟨g, off, cap, x, hv, hc, hn 0 x a rfl rfl, ⟨a0, a1, a2⟩⟩

set_option maxHeartbeats 2000000 in
set_option maxRecDepth 100000 in
theorem take_row_ok (W1 w : World) (gp n i : Nat) (ls : List ByteArray) (s0 s1 s2 : ByteArray) (v : Value) (mx lo hi : List Int) (rows : List (List Int × List UInt8 × Int)) (vM vL vH vC : Value) (h : RQ W1 w gp n mx lo hi rows vM vL vH vC) (hv : Sv w v ls) (hvg : ∀ k, v.ownBlock = some k → k ≠ gp) (hlen : ls.length = n + 3) (hsz : ∀ l ∈ ls, l.size ≤ 1000000000) (hn4 : 0 < n ∧ n ≤ 4) (hin : 1 + n < i) (hi9 : i ≤ 1000000)
    (g0 : ls.getD 0 ⟨#[]⟩ = s0) (g1 : ls.getD (n + 1) ⟨#[]⟩ = s1) (g2 : ls.getD (n + 2) ⟨#[]⟩ = s2) (hs : s0.toList = [114, 111, 119]) (hall : ((ls.drop 1).take n).all (fun l => wOk l.data.toList) = true) (hsg : s1.toList = [60, 61] ∨ s1.toList = [62, 61] ∨ s1.toList = [61]) (ha : wOk s2.data.toList = true) (hrl : rows.length ≤ 6) :
    Calls Tryz.prog 112 #[.pointer (some ⟨gp, 0, none⟩), .int .i64 (i : Nat), v] w fun e w' => e = .returned (.bool (decide (rows.length < 6))) ∧ ∃ vC', RQ W1 w' gp n mx lo hi (rows ++ [(((ls.drop 1).take n).map fun l => wZ l.data.toList, s1.data.toList, wZ s2.data.toList)]) vM vL vH vC' := by
  obtain ⟨i0, hi0, hz0, hz1, hz2⟩ := info_parts Tryz.infoCond
  obtain ⟨h0, h1, h2, h3, h4, f0, f1, f2, f3, f4⟩ := h.box
  have hv0 := hv
  obtain ⟨ao, cap, rfl⟩ := hv.shape
  obtain ⟨g, off, rfl, hg, hrow⟩ := hv.row (by intro e; rw [e] at hlen; simp at hlen)
  have c0 := hrow 0 (by omega)
  have cn := hrow (n + 1) (by omega)
  rw [Nat.add_zero, g0] at c0
  rw [g1] at cn
  have hcap : ls.length ≤ cap := by
    rcases hv with ⟨e, _⟩ | ⟨_, _, _, e, e2, _⟩
    · simp at e
    · simp only [Value.slice.injEq] at e
      omega
  have hu := hv0.part 1 n (cap - 1) (by omega) (by omega) (fun _ => trivial)
  have hu' : Sv w (.slice (some ⟨g, off + (n + 1 + 1), none⟩) 1 (cap - (n + 1 + 1))) [s2] := by
    have := hv0.part (n + 2) 1 (cap - (n + 1 + 1)) (by omega) (by omega) (fun _ => trivial)
    have e : (ls.drop (n + 2)).take 1 = [s2] := by
      rw [← g2, List.getD_eq_getElem?_getD, List.getElem?_eq_getElem (by omega), List.drop_eq_getElem_cons (by omega)]
      rfl
    rwa [e] at this
  have HWH := hide (wholes_any w _ ((ls.drop 1).take n) hu (fun l hl => hsz l (List.mem_of_mem_drop (List.mem_of_mem_take hl))) (by simp; omega))
  rw [hall] at HWH
  have hs2 : s2.size ≤ 1000000000 := by rw [← g2, List.getD_eq_getElem?_getD, List.getElem?_eq_getElem (by omega)]; exact hsz _ (List.getElem_mem _)
  have hall2 : ([s2].all fun l => wOk l.data.toList) = true := by simp [ha]
  have HW2 := hide (fun (W : World) (hW : Sv W (.slice (some ⟨g, off + (n + 1 + 1), none⟩) 1 (cap - (n + 1 + 1))) [s2]) => wholes_any W _ [s2] hW (by simpa using hs2) (by simp))
  rw [hall2] at HW2
  have hi1 : ¬ ((i : Int) = 0) := by omega
  have hi1' : ¬ ((i : Int) = 1) := by omega
  have hi3 : 1 + (n : Int) < (i : Int) := by omega
  have hi4 : ¬ (i : Int) ≤ 1 + (n : Int) := by omega
  have hlt : ((ls.drop 1).take n).length = n := by simp; omega
  rw [hlen] at hcap ⊢
  clear hall2 hv hrow hsz hall
  go_enter Tryz.func112, Tryz.ntmps112
  go_wp2_with fail
  refine HWH.out.mono ?_
  rintro e w1 ⟨x, rfl, hx, _, hb1⟩
  obtain ⟨hx1, hfr⟩ := hx (by first | exact trivial | rfl)
  have hxl := hx1.shape
  rw [List.length_map, hlt] at hxl
  obtain ⟨xo, xc, rfl⟩ := hxl
  have hR := h.below hb1
  obtain ⟨k0, k1, k2, k3, k4, e0, e1, e2, e3, e4⟩ := hR.box
  have d0 := (hb1.cell (p := ⟨g, off, none⟩) hg).trans c0
  have dn := (hb1.cell (p := ⟨g, off + (n + 1), none⟩) hg).trans cn
  go_wp2_with fail
  refine (HW2.out w1 (hu'.below hb1)).mono ?_
  rintro e w2 ⟨y, rfl, hy, _, hb2⟩
  obtain ⟨hy1, hfr2⟩ := hy (by first | exact trivial | rfl)
  obtain ⟨gy, oy, yc, t, rfl, hyc, ht, t0, t1, t2⟩ := hy1.one
  have hx2 := hx1.below hb2
  have hR2 := hR.below hb2
  have d02 := (hb2.cell (p := ⟨g, off, none⟩) (Nat.lt_of_lt_of_le hg hb1.size)).trans d0
  have dn2 := (hb2.cell (p := ⟨g, off + (n + 1), none⟩) (Nat.lt_of_lt_of_le hg hb1.size)).trans dn
  clear k0 k1 k2 k3 k4 e0 e1 e2 e3 e4 d0 dn c0 cn HWH HW2 hy hx
  obtain ⟨k0, k1, k2, k3, k4, e0, e1, e2, e3, e4⟩ := hR2.box
  obtain ⟨cs, hcs, hown, hcond⟩ := hR2.cs
  have hgp2 : gp < w2.heap.size := hR2.gpw
  have hgpC : some gp ≠ vC.ownBlock := fun e => by have := (owns_lt hown gp e.symm).1; have := h.lt; omega
  have hR3 := (hR2.alloc (.cells #[.slice xo n xc, .string s1, .bool t.b, t.up, t.down] 206)).drew
  have hB3 := hR3.box
  have hown2 : ((w2.alloc (.cells #[.slice xo n xc, .string s1, .bool t.b, t.up, t.down] 206)).drew).ownsRow W1.heap.size 206 5 vC cs.length (condCells cs) := owns_same hown (by simp) (fun k hk => Below.heap_alloc _ _ _ (owns_lt hown k hk).2)
  have hbB : W1.heap.size ≤ w2.heap.size := hR2.wr.size
  obtain ⟨x, hxe⟩ : ∃ x : CondV, x = ⟨(xo, n, xc), s1, t⟩ := ⟨_, rfl⟩
  have hnews : ∀ (j : Nat) (u : Value), x.cells[j]? = some u → ((w2.alloc (.cells #[.slice xo n xc, .string s1, .bool t.b, t.up, t.down] 206)).drew).cell? ((⟨w2.heap.size, 0, none⟩ : Addr).add j) = some u := by
    have hb := World.alloc_heap_new w2 (.cells #[.slice xo n xc, .string s1, .bool t.b, t.up, t.down] 206)
    intro j u hj
    refine World.news_of_block (w := (w2.alloc (.cells #[.slice xo n xc, .string s1, .bool t.b, t.up, t.down] 206)).drew) hb j u ?_
    rw [hxe] at hj
    exact hj
  have hone : ∀ u ∈ x.cells, u.oneCell' = true := by
    intro u hu
    rw [hxe] at hu
    simp only [CondV.cells, CondV.gv, List.mem_cons, List.not_mem_nil, or_false] at hu
    rcases hu with rfl | rfl | rfl | rfl | rfl <;> rfl
  have hcl : x.cells.length = 1 * 5 := by rw [hxe]; rfl
  have hxi : CondIs W1.heap.size ((w2.alloc (.cells #[.slice xo n xc, .string s1, .bool t.b, t.up, t.down] 206)).drew) vC x (((ls.drop 1).take n).map fun l => wZ l.data.toList, s1.data.toList, wZ s2.data.toList) := by
    rw [hxe]
    refine ⟨?_, fun k hk => ⟨Nat.le_trans h.wr.size (hfr k hk), fun e => ?_⟩, rfl, ht.alloc _⟩
    · have e : ((((ls.drop 1).take n).map fun l => wZ l.data.toList).map fun z => (z, (1 : Nat))) = (((ls.drop 1).take n).map fun l => (wZ l.data.toList, 1)) := by rw [List.map_map]; rfl
      show Nums _ (.slice xo n xc) ((((ls.drop 1).take n).map fun l => wZ l.data.toList).map fun z => (z, 1))
      rw [e]
      exact hx2.below (Below.drawn ((Below.refl _ _).alloc (Nat.le_refl _) _) 1)
    · have := (h.cs.lt k e).2
      have := hfr k hk
      omega
  have hcondD : ∀ (i : Nat) (c : CondV) (r : List Int × List UInt8 × Int), cs[i]? = some c → rows[i]? = some r → CondIs W1.heap.size ((w2.alloc (.cells #[.slice xo n xc, .string s1, .bool t.b, t.up, t.down] 206)).drew) vC c r := fun i c r a1 a2 => (hcond i c r a1 a2).kept (Kept.of_below (Below.drawn ((Below.refl _ _).alloc (Nat.le_refl _) _) 1)) (fun g _ hg _ => Below.heap_alloc _ _ _ hg)
  have k4a := cell_alloc_old (o := .cells #[.slice xo n xc, .string s1, .bool t.b, t.up, t.down] 206) k4
  have HX := hide hxe
  clear hxe
  rcases hsg with hsg | hsg | hsg
  all_goals
    go_wp2
    go_region_law (refine step_append_lies _ rfl (.tmp 155) (.tmp 162) 201 rfl W1.heap.size 206 i0 (.agg #[.slice none 0 0, .string ⟨#[]⟩, .bool false, .slice none 0 0, .slice none 0 0]) 5 96 Tryz.underlying201 hi0 hz0 hz1 hz2 rfl (by decide) vC cs.length (condCells cs) rfl hown2 ⟨w2.heap.size, 0, none⟩ 1 1 x.cells rfl hcl hnews hone (by omega) (by unfold maxLen; omega) (by omega) (by simp; omega) (w2.heap.size + 1) (by simp) ?_; intro g4 cap4 w4 hown5 hgrow5 hat5 hlt5; have q3 := (hgrow5.cell_far ⟨gp, 4, none⟩ (by simp; omega) hgpC).trans hB3.2.2.2.2.1; have q3f := (hgrow5.frozen_far ⟨gp, 4, none⟩ (by simp; omega) hgpC).trans hB3.2.2.2.2.2.2.2.2.2)
    all_goals
      have hZ := hR3.growCs (x := x) (g := g4) (cap := cap4) (cs := cs) hcs hcondD hxi (by rw [hcs]; rw [hcs] at hown5; exact hown5) hgrow5 (hat5.imp id (fun e => by rw [e]; simp))
      rw [hcs] at hZ
      have HZ := hide hZ
      clear hZ
      have q5 : (w4.setCell ⟨gp, 4, none⟩ (.slice (some ⟨g4, 0, none⟩) (rows.length + 1) cap4)).cell? ⟨gp, 4, none⟩ = some (.slice (some ⟨g4, 0, none⟩) (rows.length + 1) cap4) := World.cell?_setCell_same _ _ _ q3
      go_wp2
      go_ret
      refine ⟨?_, _, HZ.out⟩
      apply ret_bool
      rw [Bool.eq_iff_iff]
      simp
      omega
end Go.Proofs.YtnhfdcfnojnofaaGreatDoor.T

/-
  What the document's own take does (package planesref): what is no row.
-/
namespace Go.Proofs.YtnhfdcfnojnofaaGreatDoor.T
open Go.RowKit

set_option maxHeartbeats 2000000 in
set_option maxRecDepth 100000 in
/-- Too few words. -/
theorem take_row_few (W1 w : World) (gp n i : Nat) (v : Value) (ls : List ByteArray) (mx lo hi : List Int) (rows : List (List Int × List UInt8 × Int)) (vM vL vH vC : Value) (h : RQ W1 w gp n mx lo hi rows vM vL vH vC) (hv : Sv w v ls) (hl : ls.length < 3) (hn4 : 0 < n ∧ n ≤ 4) (hin : 1 + n < i) (hi9 : i ≤ 1000000) :
    Calls Tryz.prog 112 #[.pointer (some ⟨gp, 0, none⟩), .int .i64 (i : Nat), v] w fun e w' => e = .returned (.bool false) ∧ Wr (fun k => k = gp) W1 w' := by
  obtain ⟨h0, h1, h2, h3, h4, f0, f1, f2, f3, f4⟩ := h.box
  obtain ⟨ao, cap, rfl⟩ := hv.shape
  have hi1 : ¬ ((i : Int) = 0) := by omega
  have hi3 : 1 + (n : Int) < (i : Int) := by omega
  have hlI : (ls.length : Int) - 2 < 1 := by omega
  have hw := h.wr
  have hwrap : IntKind.i64.wrap ((ls.length : Int) - 2) = (ls.length : Int) - 2 := by
    obtain e | e | e : ls.length = 0 ∨ ls.length = 1 ∨ ls.length = 2 := by omega
    all_goals rw [e]; rfl
  go_enter Tryz.func112, Tryz.ntmps112
  go_wp2
  go_ret
  exact ⟨rfl, hw⟩

set_option maxHeartbeats 4000000 in
set_option maxRecDepth 100000 in
/-- Words enough, but one of them is wrong. -/
theorem take_row_no (W1 w : World) (gp n k i : Nat) (ls : List ByteArray) (s0 s1 s2 : ByteArray) (v : Value) (mx lo hi : List Int) (rows : List (List Int × List UInt8 × Int)) (vM vL vH vC : Value) (h : RQ W1 w gp n mx lo hi rows vM vL vH vC) (hv : Sv w v ls) (hlen : ls.length = k + 3) (hk9 : k ≤ 100000) (hsz : ∀ l ∈ ls, l.size ≤ 1000000000) (hn4 : 0 < n ∧ n ≤ 4) (hin : 1 + n < i) (hi9 : i ≤ 1000000)
    (g0 : ls.getD 0 ⟨#[]⟩ = s0) (g1 : ls.getD (k + 1) ⟨#[]⟩ = s1) (g2 : ls.getD (k + 2) ⟨#[]⟩ = s2)
    (hno : ¬ (k = n ∧ s0.toList = [114, 111, 119] ∧ ((ls.drop 1).take k).all (fun l => wOk l.data.toList) = true ∧ (s1.toList = [60, 61] ∨ s1.toList = [62, 61] ∨ s1.toList = [61]) ∧ wOk s2.data.toList = true)) :
    Calls Tryz.prog 112 #[.pointer (some ⟨gp, 0, none⟩), .int .i64 (i : Nat), v] w fun e w' => e = .returned (.bool false) ∧ Wr (fun k => k = gp) W1 w' := by
  obtain ⟨h0, h1, h2, h3, h4, f0, f1, f2, f3, f4⟩ := h.box
  have hv0 := hv
  obtain ⟨ao, cap, rfl⟩ := hv.shape
  obtain ⟨g, off, rfl, hg, hrow⟩ := hv.row (by intro e; rw [e] at hlen; simp at hlen)
  have c0 := hrow 0 (by omega)
  have cn := hrow (k + 1) (by omega)
  rw [Nat.add_zero, g0] at c0
  rw [g1] at cn
  have hcap : ls.length ≤ cap := by
    rcases hv with ⟨e, _⟩ | ⟨_, _, _, e, e2, _⟩
    · simp at e
    · simp only [Value.slice.injEq] at e
      omega
  have hu := hv0.part 1 k (cap - 1) (by omega) (by omega) (fun _ => trivial)
  have hu' : Sv w (.slice (some ⟨g, off + (k + 1 + 1), none⟩) 1 (cap - (k + 1 + 1))) [s2] := by
    have := hv0.part (k + 2) 1 (cap - (k + 2)) (by omega) (by omega) (fun _ => trivial)
    have e : (ls.drop (k + 2)).take 1 = [s2] := by
      rw [← g2, List.getD_eq_getElem?_getD, List.getElem?_eq_getElem (by omega), List.drop_eq_getElem_cons (by omega)]
      rfl
    rwa [e] at this
  have HWH := hide (wholes_any w _ ((ls.drop 1).take k) hu (fun l hl => hsz l (List.mem_of_mem_drop (List.mem_of_mem_take hl))) (by simp; omega))
  have hs2 : s2.size ≤ 1000000000 := by rw [← g2, List.getD_eq_getElem?_getD, List.getElem?_eq_getElem (by omega)]; exact hsz _ (List.getElem_mem _)
  have HW2 := hide (fun (W : World) (hW : Sv W (.slice (some ⟨g, off + (k + 1 + 1), none⟩) 1 (cap - (k + 1 + 1))) [s2]) => wholes_any W _ [s2] hW (by simpa using hs2) (by simp))
  have hall2 : ([s2].all fun l => wOk l.data.toList) = wOk s2.data.toList := by simp
  rw [hall2] at HW2
  obtain ⟨al, hal⟩ : ∃ al, (((ls.drop 1).take k).all fun l => wOk l.data.toList) = al := ⟨_, rfl⟩
  rw [hal] at HWH hno
  obtain ⟨fi, hfi⟩ : ∃ fi, wOk s2.data.toList = fi := ⟨_, rfl⟩
  rw [hfi] at HW2 hno
  have hi1 : ¬ ((i : Int) = 0) := by omega
  have hi1' : ¬ ((i : Int) = 1) := by omega
  have hi3 : 1 + (n : Int) < (i : Int) := by omega
  have hi4 : ¬ (i : Int) ≤ 1 + (n : Int) := by omega
  have hlt : ((ls.drop 1).take k).length = k := by simp; omega
  rw [hlen] at hcap ⊢
  clear hall2 hv hrow hsz hal hfi
  have hw := h.wr
  by_cases ha : al = true
  · subst ha
    have HWH' : Hid (Calls Tryz.prog 200 #[.slice (some ⟨g, off + 1, none⟩) k (cap - 1)] w fun e w' => ∃ xo xc, e = .returned (.tuple #[.slice xo k xc, .bool true]) ∧ Below w.heap.size w w') := by
      refine HWH.out.mono ?_
      rintro e w1 ⟨x, rfl, hx, _, hb1⟩
      obtain ⟨hx1, _⟩ := hx rfl
      have hxl := hx1.shape
      rw [List.length_map, hlt] at hxl
      obtain ⟨xo, xc, rfl⟩ := hxl
      exact ⟨xo, xc, rfl, hb1⟩
    have HW2' : Hid (∀ W : World, Sv W (.slice (some ⟨g, off + (k + 1 + 1), none⟩) 1 (cap - (k + 1 + 1))) [s2] → Calls Tryz.prog 200 #[.slice (some ⟨g, off + (k + 1 + 1), none⟩) 1 (cap - (k + 1 + 1))] W fun e w' => ∃ ao l c, e = .returned (.tuple #[.slice ao l c, .bool fi]) ∧ Below W.heap.size W w') := by
      intro W hW
      refine (HW2.out W hW).mono ?_
      rintro e w1 ⟨x, rfl, hx, hx2, hb1⟩
      by_cases hf : fi = true
      · obtain ⟨xo, xc, rfl⟩ := (hx hf).1.shape
        exact ⟨_, _, _, rfl, hb1⟩
      · obtain rfl := hx2 (by simpa using hf)
        exact ⟨_, _, _, rfl, hb1⟩
    clear HWH HW2
    by_cases hf : fi = true
    · subst hf
      by_cases hs : s0.toList = [114, 111, 119]
      · by_cases hkn : k = n
        · have hsg : ¬ (s1.toList = [60, 61] ∨ s1.toList = [62, 61] ∨ s1.toList = [61]) := fun e => hno ⟨hkn, hs, rfl, e, rfl⟩
          obtain ⟨n1, n2, n3⟩ : ¬ s1.toList = [60, 61] ∧ ¬ s1.toList = [62, 61] ∧ ¬ s1.toList = [61] := ⟨fun e => hsg (.inl e), fun e => hsg (.inr (.inl e)), fun e => hsg (.inr (.inr e))⟩
          have b1 : (s1.toList == [60, 61]) = false := by simpa using n1
          have b2 : (s1.toList == [62, 61]) = false := by simpa using n2
          have b3 : (s1.toList == [61]) = false := by simpa using n3
          obtain rfl : n = k := hkn.symm
          clear hno hsg
          go_enter Tryz.func112, Tryz.ntmps112
          go_wp2_with fail
          refine HWH'.out.mono ?_
          rintro e w1 ⟨xo, xc, rfl, hb1⟩
          have hR := h.below hb1
          obtain ⟨k0, k1, k2, k3, k4, e0, e1, e2, e3, e4⟩ := hR.box
          have d0 := (hb1.cell (p := ⟨g, off, none⟩) hg).trans c0
          have dn := (hb1.cell (p := ⟨g, off + (n + 1), none⟩) hg).trans cn
          go_wp2_with fail
          refine (HW2'.out w1 (hu'.below hb1)).mono ?_
          rintro e w2 ⟨yo, yl, yc, rfl, hb2⟩
          have hR2 := hR.below hb2
          have d02 := (hb2.cell (p := ⟨g, off, none⟩) (Nat.lt_of_lt_of_le hg hb1.size)).trans d0
          have dn2 := (hb2.cell (p := ⟨g, off + (n + 1), none⟩) (Nat.lt_of_lt_of_le hg hb1.size)).trans dn
          clear k0 k1 k2 k3 k4 e0 e1 e2 e3 e4
          obtain ⟨k0, k1, k2, k3, k4, e0, e1, e2, e3, e4⟩ := hR2.box
          go_wp2
          go_ret
          exact ⟨rfl, hR2.wr⟩
        · have hki : ¬ (k : Int) = (n : Int) := by omega
          clear hno
          go_enter Tryz.func112, Tryz.ntmps112
          go_wp2_with fail
          refine HWH'.out.mono ?_
          rintro e w1 ⟨xo, xc, rfl, hb1⟩
          have hR := h.below hb1
          obtain ⟨k0, k1, k2, k3, k4, e0, e1, e2, e3, e4⟩ := hR.box
          have d0 := (hb1.cell (p := ⟨g, off, none⟩) hg).trans c0
          have dn := (hb1.cell (p := ⟨g, off + (k + 1), none⟩) hg).trans cn
          go_wp2_with fail
          refine (HW2'.out w1 (hu'.below hb1)).mono ?_
          rintro e w2 ⟨yo, yl, yc, rfl, hb2⟩
          have hR2 := hR.below hb2
          have d02 := (hb2.cell (p := ⟨g, off, none⟩) (Nat.lt_of_lt_of_le hg hb1.size)).trans d0
          have dn2 := (hb2.cell (p := ⟨g, off + (k + 1), none⟩) (Nat.lt_of_lt_of_le hg hb1.size)).trans dn
          clear k0 k1 k2 k3 k4 e0 e1 e2 e3 e4
          obtain ⟨k0, k1, k2, k3, k4, e0, e1, e2, e3, e4⟩ := hR2.box
          go_wp2
          go_ret
          exact ⟨rfl, hR2.wr⟩
      · clear hno
        go_enter Tryz.func112, Tryz.ntmps112
        go_wp2_with fail
        refine HWH'.out.mono ?_
        rintro e w1 ⟨xo, xc, rfl, hb1⟩
        have hR := h.below hb1
        obtain ⟨k0, k1, k2, k3, k4, e0, e1, e2, e3, e4⟩ := hR.box
        have d0 := (hb1.cell (p := ⟨g, off, none⟩) hg).trans c0
        have dn := (hb1.cell (p := ⟨g, off + (k + 1), none⟩) hg).trans cn
        go_wp2_with fail
        refine (HW2'.out w1 (hu'.below hb1)).mono ?_
        rintro e w2 ⟨yo, yl, yc, rfl, hb2⟩
        have hR2 := hR.below hb2
        have d02 := (hb2.cell (p := ⟨g, off, none⟩) (Nat.lt_of_lt_of_le hg hb1.size)).trans d0
        have dn2 := (hb2.cell (p := ⟨g, off + (k + 1), none⟩) (Nat.lt_of_lt_of_le hg hb1.size)).trans dn
        clear k0 k1 k2 k3 k4 e0 e1 e2 e3 e4
        obtain ⟨k0, k1, k2, k3, k4, e0, e1, e2, e3, e4⟩ := hR2.box
        go_wp2
        go_ret
        exact ⟨rfl, hR2.wr⟩
    · have hff : fi = false := by simpa using hf
      subst hff
      clear hno
      go_enter Tryz.func112, Tryz.ntmps112
      go_wp2_with fail
      refine HWH'.out.mono ?_
      rintro e w1 ⟨xo, xc, rfl, hb1⟩
      have hR := h.below hb1
      obtain ⟨k0, k1, k2, k3, k4, e0, e1, e2, e3, e4⟩ := hR.box
      have d0 := (hb1.cell (p := ⟨g, off, none⟩) hg).trans c0
      have dn := (hb1.cell (p := ⟨g, off + (k + 1), none⟩) hg).trans cn
      go_wp2_with fail
      refine (HW2'.out w1 (hu'.below hb1)).mono ?_
      rintro e w2 ⟨yo, yl, yc, rfl, hb2⟩
      have hR2 := hR.below hb2
      have d02 := (hb2.cell (p := ⟨g, off, none⟩) (Nat.lt_of_lt_of_le hg hb1.size)).trans d0
      have dn2 := (hb2.cell (p := ⟨g, off + (k + 1), none⟩) (Nat.lt_of_lt_of_le hg hb1.size)).trans dn
      clear k0 k1 k2 k3 k4 e0 e1 e2 e3 e4
      obtain ⟨k0, k1, k2, k3, k4, e0, e1, e2, e3, e4⟩ := hR2.box
      go_wp2
      go_ret
      exact ⟨rfl, hR2.wr⟩
  · have haf : al = false := by simpa using ha
    subst haf
    go_enter Tryz.func112, Tryz.ntmps112
    go_wp2_with fail
    refine HWH.out.mono ?_
    rintro e w1 ⟨x, rfl, _, hx2, hb1⟩
    obtain rfl := hx2 (by first | exact trivial | rfl)
    have hR := h.below hb1
    obtain ⟨k0, k1, k2, k3, k4, e0, e1, e2, e3, e4⟩ := hR.box
    go_wp2
    go_ret
    exact ⟨rfl, hR.wr⟩
end Go.Proofs.YtnhfdcfnojnofaaGreatDoor.T
