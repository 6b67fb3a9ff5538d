/-
  Part 30 of the texts ahead of Pks1: Dvs7.
-/
import Derived.Test.YtnhfdcfnojnofaaGreatDoorPks1Z29
set_option linter.unusedSimpArgs false
set_option linter.unusedVariables false
/-
  What String does (package problem): the walk.
-/
namespace Go.Proofs.YtnhfdcfnojnofaaGreatDoor
open Go.RowKit
attribute [local go_sem] Oper.semAt_some wide_depth wide_fn

/-- What stands while the ranges and the conditions are written. -/
def StI (w : World) (tb : Nat) (txt : List UInt8) (v : Value) (oP : Obj) (bt : Nat) (oL : Obj) (Ds : List Nat) (A : World) : Prop :=
  Bd w.heap.size tb txt v A ∧ Below w.heap.size w A ∧ A.heap[w.heap.size]? = some oP ∧ A.heap[bt]? = some oL ∧ ∀ D ∈ Ds, A.heap[D]? = some (.deferred (some []))

theorem StI.keep {C : Nat} {w : World} {tb : Nat} {txt : List UInt8} {v : Value} {c1 c2 : Array Value} {y1 y2 : TypeId} {f1 f2 : Nat × Nat} {bt : Nat} {Ds : List Nat} {A A' : World} (h : StI w tb txt v (.cells c1 y1 f1) bt (.cells c2 y2 f2) Ds A) (hk : Keep C A A') (hC : w.heap.size ≤ C) (hD : ∀ D ∈ Ds, D < C) : StI w tb txt v (.cells c1 y1 f1) bt (.cells c2 y2 f2) Ds A' :=
  ⟨h.1.keep hk, hk.below h.2.1 hC (Nat.le_refl _), (hk.cells' h.2.2.1 rfl).trans h.2.2.1, (hk.cells' h.2.2.2.1 rfl).trans h.2.2.2.1, fun D hd => hk.block D _ (h.2.2.2.2 D hd) (.inl (hD D hd))⟩

/-- A text is written behind. -/
theorem StI.write {w : World} {tb : Nat} {txt txt' : List UInt8} {v v' : Value} {c1 c2 : Array Value} {y1 y2 : TypeId} {f1 f2 : Nat × Nat} {bt : Nat} {Ds : List Nat} {A A2 A3 : World} (h : StI w tb txt v (.cells c1 y1 f1) bt (.cells c2 y2 f2) Ds A) (hb : Below A.heap.size A A2) (h1 : y1 ≠ 5) (h2 : y2 ≠ 5) (ht : tb ≠ w.heap.size ∧ tb ≠ bt ∧ ∀ D ∈ Ds, tb ≠ D)
    (hB : Bd w.heap.size tb txt' v' A3) (hbel : Below w.heap.size A2 A3) (hw : Wr (fun k => k = tb ∨ v.ownBlock = some k) A2 A3) : StI w tb txt' v' (.cells c1 y1 f1) bt (.cells c2 y2 f2) Ds A3 := by
  obtain ⟨a1, a2, a3, a4, a5⟩ := h
  have s1 := a1.sep a3 (fun c fz e => h1 (by injection e))
  have s2 := a1.sep a4 (fun c fz e => h2 (by injection e))
  refine ⟨hB, (a2.trans (hb.mono a2.size)).trans hbel, ?_, ?_, fun D hd => ?_⟩
  · refine hw.some ((hb.block _ (lt_of_block a3)).trans a3) (fun e => ?_)
    rcases e with e | e
    · exact ht.1 e.symm
    · exact s1 e
  · refine hw.some ((hb.block _ (lt_of_block a4)).trans a4) (fun e => ?_)
    rcases e with e | e
    · exact ht.2.1 e.symm
    · exact s2 e
  · have s3 := a1.sep (a5 D hd) (fun c fz e => by cases e)
    refine hw.some ((hb.block _ (lt_of_block (a5 D hd))).trans (a5 D hd)) (fun e => ?_)
    rcases e with e | e
    · exact ht.2.2 D hd e.symm
    · exact s3 e

theorem Bd.below2a {B tb : Nat} {txt : List UInt8} {v : Value} {A : World} (h : Bd B tb txt v A) (o : Obj) : Bd B tb txt v (A.alloc o) := h.keep (Keep.alloc 0 A o)

set_option maxHeartbeats 8000000 in
set_option maxRecDepth 100000 in
theorem string_any (p : Prob) (ao : Option Addr) (cap : Nat) (ap : Option Addr) (kp : Nat) (bc gR : Nat) (x y : Nat → Nat → Value) (w : World) (htab : Tab w) (hn : p.n ≤ 4) (hao : 0 < p.n → ao = some ⟨bc, 0, none⟩) (hap : 0 < p.rows.length → ap = some ⟨gR, 0, none⟩)
    (hml : p.mx.length = p.n) (hgl : p.rg.length = p.n) (hr6 : p.rows.length ≤ 6)
    (hbm : ∀ z ∈ p.mx, z.natAbs < 10 ^ 40) (hbg : ∀ r ∈ p.rg, r.1.natAbs < 10 ^ 40 ∧ r.2.natAbs < 10 ^ 40) (hbr : ∀ r ∈ p.rows, r.1.length ≤ 4 ∧ r.2.1.length ≤ 2 ∧ (∀ z ∈ r.1, z.natAbs < 10 ^ 40) ∧ r.2.2.natAbs < 10 ^ 40)
    (hxc : ∀ i j, i < p.n → j < 6 → w.cell? ⟨bc, i * 6 + j, none⟩ = some (x i j)) (hxs : ∀ k t, k < p.n → t < 3 → ∃ b a l c, x k (2 * t) = .bool b ∧ x k (2 * t + 1) = .slice a l c)
    (hxw : ∀ k, k < p.n → WholeV w (.agg #[x k 0, x k 1]) (p.mx.getD k 0) ∧ WholeV w (.agg #[x k 2, x k 3]) (p.rg.getD k (0, 0)).1 ∧ WholeV w (.agg #[x k 4, x k 5]) (p.rg.getD k (0, 0)).2)
    (hyc : ∀ i j, i < p.rows.length → j < 4 → w.cell? ⟨gR, i * 4 + j, none⟩ = some (y i j))
    (hyw : ∀ k, k < p.rows.length → ∃ (T : Nat → Prop) (r : RowV), y k 0 = .string r.s ∧ y k 1 = .bool r.x ∧ y k 2 = .slice r.b.1 r.b.2.1 r.b.2.2 ∧ y k 3 = .slice (some ⟨r.f, 0, none⟩) r.n r.n ∧ RowIs w T r (p.rows.getD k ([], [], 0))) :
    Calls Tryz.prog 60 #[.agg #[.slice ao p.n cap, .slice ap p.rows.length kp]] w fun e w' => e = .returned (.string ⟨(textS p).toArray⟩) ∧ Below w.heap.size w w' := by
  have hm : Tryz.prog.follows .mixedOrders = true := by kernel_rfl
  have hbcl : 0 < p.n → bc < w.heap.size := fun h0 => block_lt_of_cell (hxc 0 0 h0 (by omega))
  have hgRl : 0 < p.rows.length → gR < w.heap.size := fun h0 => block_lt_of_cell (hyc 0 0 h0 (by omega))
  have hl1 : (wVars ++ 32 :: Lib.itoa (p.n : Int) ++ [10]).length ≤ 200 := by
    have := itoa_cap (z := (p.n : Int)) (cap40 (by have : (4 : Nat) < 10 ^ 40 := by decide
                                                   omega))
    simp [wVars] at this ⊢
    omega
  have hl2 : (wMax ++ tellS p.mx ++ [10]).length ≤ 1000 := by
    have := tell_len p.mx hbm
    simp [wMax] at this ⊢
    omega
  have hl3 : ∀ k, ((p.rg.take k).flatMap rangeS).length ≤ 2000 := fun k => by
    have := flat_len rangeS (p.rg.take k) 300 (fun r hr => rangeS_len r (hbg r (List.mem_of_mem_take hr)))
    have h2 : (p.rg.take k).length ≤ 4 := by rw [List.length_take]; omega
    omega
  have hl4 : ∀ k, ((p.rows.take k).flatMap rowS).length ≤ 10000 := fun k => by
    have := flat_len rowS (p.rows.take k) 1000 (fun r hr => by
      have h := hbr r (List.mem_of_mem_take hr)
      exact rowS_len r h.1 h.2.1 h.2.2.1 h.2.2.2)
    have h2 : (p.rows.take k).length ≤ 6 := by rw [List.length_take]; omega
    omega
  have HTX : Hid (textS p = wVars ++ 32 :: Lib.itoa (p.n : Int) ++ [10] ++ (wMax ++ tellS p.mx ++ [10]) ++ p.rg.flatMap rangeS ++ p.rows.flatMap rowS) := rfl
  have HL3 := hide hl3
  have HL4 := hide hl4
  clear hl3 hl4
  have HXC := hide hxc
  have HXS := hide hxs
  have HXW := hide hxw
  have HYC := hide hyc
  have HYW := hide hyw
  clear hxc hxs hxw hyc hyw
  have HJV := hide (join_vars p.n)
  have HJM := hide (join_max p.mx)
  have HST := hide (fun (X : Value) (z : Int) (hX : WholeV w X z) (hz : z.natAbs < 10 ^ 40) W (hW : Below w.heap.size w W) => wholeString_any W X z (hX.below hW) (cap40 hz) (htab.below hW))
  have HLN := hide (fun (T : Nat → Prop) (r : RowV) (row : List Int × List UInt8 × Int) (h : RowIs w T r row) (h2 : row.1.length ≤ 4 ∧ row.2.1.length ≤ 2 ∧ (∀ z ∈ row.1, z.natAbs < 10 ^ 40) ∧ row.2.2.natAbs < 10 ^ 40) W (hW : Below w.heap.size w W) => line_any T r row W (h.keep (B := 0) (Keep.of_below hW)) (htab.below hW) h2.1 h2.2.1 h2.2.2.1 h2.2.2.2)
  obtain ⟨t1, ht1⟩ : ∃ t1, wVars ++ 32 :: Lib.itoa (p.n : Int) ++ [10] = t1 := ⟨_, rfl⟩
  obtain ⟨t2, ht2⟩ : ∃ t2, wMax ++ tellS p.mx ++ [10] = t2 := ⟨_, rfl⟩
  rw [ht1, ht2] at HTX
  rw [ht1] at HJV hl1
  rw [ht2] at HJM hl2
  clear ht1 ht2
  have hb0 := below2 w (.cells #[.slice ao p.n cap, .slice ap p.rows.length kp] 109) (.cells #[.pointer none, .slice none 0 0] 140)
  have HB0 := Bd.new (w.alloc (.cells #[.slice ao p.n cap, .slice ap p.rows.length kp] 109)) w.heap.size (by simp)
  rw [World.size_alloc] at HB0
  have HBD := hide HB0
  clear HB0
  refine (callsIn_wide (n := 0)).1 ?_
  refine callsIn_of_wp_marks Tryz.func60 rfl trivial ?_ rfl
  simp only [Tryz.ntmps60, List.size_toArray, List.length_cons, List.length_nil, Nat.reduceAdd, Nat.reduceSub, Array.replicate_succ, Array.replicate_zero, List.push_toArray, List.append_toArray, List.nil_append, List.cons_append]
  gi_wp2
  refine (callsIn_wide.2 (varsLen _ _ _ _ _ _ _ (by omega))).mono ?_
  rintro e w1 ⟨rfl, rfl⟩
  gi_wp2
  refine (callsIn_wide.2 (Tryz.strconv_Itoa_small p.n (by omega) _)).mono ?_
  rintro e w1 ⟨rfl, rfl⟩
  gi_wp2
  have HJ1 := join_new (((w.alloc (.cells #[.slice ao p.n cap, .slice ap p.rows.length kp] 109)).alloc (.cells #[.pointer none, .slice none 0 0] 140)).alloc (.cells #[.slice ao p.n cap, .slice ap p.rows.length kp] 109)) [⟨wVars.toArray⟩, ⟨(Lib.decDigits p.n).toArray⟩] (by simp) (by have := congrArg List.length HJV.out; rw [List.length_append] at this; omega) 2 rfl
  rw [HJV.out] at HJ1
  simp only [World.size_alloc] at HJ1
  refine (callsIn_wide.2 HJ1).mono ?_
  rintro e w2 ⟨rfl, hb2⟩
  have hb3 : Below w.heap.size w w2 := (below3 w _ _ _).trans (hb2.mono (by omega))
  have hpb0 : w2.heap[w.heap.size]? = some (.cells #[.slice ao p.n cap, .slice ap p.rows.length kp] 109 (0, 0)) := by
    rw [hb2.block _ (by omega)]
    rw [Below.heap_alloc _ _ _ (by simp; omega), Below.heap_alloc _ _ _ (by simp)]
    exact World.alloc_heap_new w _
  have HB2 := (HBD.out.below2a (.cells #[.slice ao p.n cap, .slice ap p.rows.length kp] 109)).below (by simpa using hb2)
  have hs2 : w.heap.size + 1 + 1 + 1 ≤ w2.heap.size := by have := hb2.size; simpa using this
  clear hb2 HJ1
  gi_wp2
  refine (callsIn_wide.2 (write_bd w.heap.size (w.heap.size + 1) [] _ t1 w2 HB2 (by simp) (by omega) hb3.size)).mono ?_
  rintro e w5 ⟨⟨r1, rfl⟩, v1, HB5, hb5, hw5, ho5⟩
  rw [List.nil_append] at HB5
  have hbw5 : Below w.heap.size w w5 := hb3.trans hb5
  have hpb5 : w5.heap[w.heap.size]? = some (.cells #[.slice ao p.n cap, .slice ap p.rows.length kp] 109 (0, 0)) := hw5.some hpb0 (fun e => by
    rcases e with e | e
    · omega
    · cases e)
  have hs5 : w2.heap.size ≤ w5.heap.size := hb5.size
  clear hw5 hb5 HB2 hpb0 hb3 HBD
  have g0 : ((w5.alloc (.cells #[.string ⟨#[109, 97, 120]⟩] 9)).alloc (.cells #[.slice (some ⟨w5.heap.size, 0, none⟩) 1 1] 44)).cell? ⟨w.heap.size, 0, none⟩ = some (.slice ao p.n cap) := ((Keep.alloc 0 w5 _).trans (Keep.alloc 0 _ _)).cell (cell_of_row _ _ _ _ _ _ hpb5)
  have g1 : ((w5.alloc (.cells #[.string ⟨#[109, 97, 120]⟩] 9)).alloc (.cells #[.slice (some ⟨w5.heap.size, 0, none⟩) 1 1] 44)).cell? ⟨w.heap.size, 1, none⟩ = some (.slice ap p.rows.length kp) := ((Keep.alloc 0 w5 _).trans (Keep.alloc 0 _ _)).cell (cell_of_row _ _ _ _ _ _ hpb5)
  have HWS := hide (Wds.start w5 w5 (Below.refl _ _) ⟨wMax.toArray⟩)
  gi_wp2
  refine (callsIn_wide.2 (aims_mk _ _ _ _ _ _ _)).mono ?_
  rintro e w6 ⟨rfl, rfl⟩
  clear g0 g1
  gi_wp2
  refine range_list (aims_seq x ao bc p.n cap (w5.heap.size + 1 + 1) ap p.rows.length kp (by omega) hao HXS.out) rfl (enters_f Tryz.func155 (by kernel_rfl) rfl) (fun v hv => ?_)
    (fun k M A => k ≤ p.n ∧ ∃ xs aq kq, Hid (xs = ⟨wMax.toArray⟩ :: (p.mx.take k).map itoaB) ∧ Wds w5.heap.size w5 A (w5.heap.size + 1) xs [w5.heap.size + 1 + 1] aq kq ∧ A.heap[w5.heap.size + 1 + 1]? = some (.cells #[.slice ao p.n cap, .slice ap p.rows.length kp] 109 (0, 0)) ∧ ∀ z, M z ↔ z = w5.heap.size + 1 ∨ (Value.slice aq xs.length kq).ownBlock = some z)
    (fun c k A => False) (fun z => z = w5.heap.size + 1 ∨ (Value.slice (some ⟨w5.heap.size, 0, none⟩) 1 1).ownBlock = some z) ?hI ?hIx ?hC ?h0 ?round ?done ?stop
  case hI =>
    rintro k M A B' ⟨h1, xs, aq, kq, h2, h3, h4, h6⟩ hk
    exact ⟨h1, xs, aq, kq, h2, h3.keep hk (by simp; omega), (hk.cells' h4 rfl).trans h4, h6⟩
  case hIx =>
    rintro c k A B' h _
    exact h.elim
  case hC =>
    rintro k M A ⟨h1, xs, aq, kq, h2, h3, h4, h6⟩
    refine ⟨⟨cell_of_row _ _ _ _ _ _ h4, cell_of_row _ _ _ _ _ _ h4, fun i j hi hj => ?_⟩, fun z hz => ?_⟩
    · have hbc := hbcl (by omega)
      exact (h3.bel.cell (p := ⟨bc, i * 6 + j, none⟩) (by have := hbw5.size; simp; omega)).trans ((hbw5.cell (p := ⟨bc, i * 6 + j, none⟩) hbc).trans (HXC.out i j hi hj))
    · rcases (h6 z).1 hz with e | e
      · rw [e]; exact h3.lt _ (by simp)
      · exact (h3.own.lt z e).2
  case h0 =>
    refine ⟨Nat.zero_le _, [⟨wMax.toArray⟩], some ⟨w5.heap.size, 0, none⟩, 1, by simp [Hid], ?_, ?_, fun _ => Iff.rfl⟩
    · have h2 := HWS.out.alloc_avoid (.cells #[.slice ao p.n cap, .slice ap p.rows.length kp] 109)
      simp only [World.size_alloc] at h2
      exact h2
    · have t := World.alloc_heap_new ((w5.alloc (.cells #[.string ⟨wMax.toArray⟩] 9)).alloc (.cells #[.slice (some ⟨w5.heap.size, 0, none⟩) 1 1] 44)) (.cells #[.slice ao p.n cap, .slice ap p.rows.length kp] 109)
      simp only [World.size_alloc] at t
      exact t
  case round =>
    rintro l2 k v M A hv ⟨hkn0, xs, aq, kq, hxs, hW, hbt, hM⟩
    have hkn : k < p.n := by
      have := (List.getElem?_eq_some_iff.1 hv).1
      rwa [aimVs_len] at this
    rw [aimVs_get hkn] at hv
    injection hv with hv
    subst hv
    obtain ⟨y0, a0, l0, c0, e0, e1⟩ := HXS.out k 0 hkn (by omega)
    simp only [Nat.mul_zero, Nat.zero_add] at e0 e1
    have hwk := (HXW.out k hkn).1
    rw [e0, e1] at hwk ⊢
    have hzb : (p.mx.getD k 0).natAbs < 10 ^ 40 := hbm _ (by rw [List.getD_eq_getElem?_getD, List.getElem?_eq_getElem (by omega)]; exact List.getElem_mem _)
    have HSK := hide (fun W hW => HST.out _ _ hwk hzb W hW)
    clear e0 e1 hwk hzb
    have hxl : xs.length = k + 1 := by rw [hxs.out]; simp; omega
    have HXX : Hid (xs ++ [itoaB (p.mx.getD k 0)] = ⟨wMax.toArray⟩ :: (p.mx.take (k + 1)).map itoaB) := by rw [Hid, hxs.out, take_itoa p.mx k (by omega)]; rfl
    have HIB : Hid (itoaB (p.mx.getD k 0) = ⟨(Lib.itoa (p.mx.getD k 0)).toArray⟩) := rfl
    generalize hzk : p.mx.getD k 0 = zk at *
    unfold RoundOK
    gi_wp2
    refine ⟨Wr.of_below ((Below.refl _ _).alloc (Nat.le_refl _) _), fun A2 hk2 => ?_⟩
    have hka := (Keep.alloc _ A _).trans hk2
    have HW2 := hW.keep hka (by simp; omega)
    have hbt2 := (hka.cells' hbt rfl).trans hbt
    have p0 : A2.cell? ⟨A.heap.size, 0, none⟩ = some (.bool y0) := hk2.cell (cell_of_row _ _ _ _ _ _ (World.alloc_heap_new A _))
    have p1 : A2.cell? ⟨A.heap.size, 1, none⟩ = some (.slice a0 l0 c0) := hk2.cell (cell_of_row _ _ _ _ _ _ (World.alloc_heap_new A _))
    have hsA : A.heap.size ≤ A2.heap.size := hka.size
    have c6 := HW2.box
    have hxl9 : xs.length ≤ 900 := by omega
    clear hxl hk2 hka hbt hW HXC HXS HXW HYC HYW HJV HJM HST HLN HL3 HL4 HTX HWS HB5
    have HFIN : Hid (∀ (B1 : World) (g cq : Nat) (A4 : World), Below A2.drew.heap.size A2.drew B1 →
        A4.ownsRow w5.heap.size 9 1 (.slice (some ⟨g, 0, none⟩) (xs.length + [itoaB zk].length) cq) (xs.length + [itoaB zk].length) (xs.map Value.string ++ [itoaB zk].map Value.string) → (B1.alloc (.cells #[.string (itoaB zk)] 9)).grownBy A4 (Value.slice aq xs.length kq).ownBlock → ((Value.slice aq xs.length kq).ownBlock = some g ∨ g = (B1.alloc (.cells #[.string (itoaB zk)] 9)).heap.size) →
        A4.cell? ⟨w5.heap.size + 1, 0, none⟩ = some (.slice aq xs.length kq) ∧ A4.frozen? ⟨w5.heap.size + 1, 0, none⟩ = false ∧ Hid (Wr M A2 (A4.setCell ⟨w5.heap.size + 1, 0, none⟩ (.slice (some ⟨g, 0, none⟩) (xs.length + [itoaB zk].length) cq)) ∧ ∃ M' : Nat → Prop, (k + 1 ≤ p.n ∧ ∃ xs' aq' kq', Hid (xs' = ⟨wMax.toArray⟩ :: (p.mx.take (k + 1)).map itoaB) ∧ Wds w5.heap.size w5 (A4.setCell ⟨w5.heap.size + 1, 0, none⟩ (.slice (some ⟨g, 0, none⟩) (xs.length + [itoaB zk].length) cq)) (w5.heap.size + 1) xs' [w5.heap.size + 1 + 1] aq' kq' ∧
          (A4.setCell ⟨w5.heap.size + 1, 0, none⟩ (.slice (some ⟨g, 0, none⟩) (xs.length + [itoaB zk].length) cq)).heap[w5.heap.size + 1 + 1]? = some (.cells #[.slice ao p.n cap, .slice ap p.rows.length kp] 109 (0, 0)) ∧ ∀ z, M' z ↔ z = w5.heap.size + 1 ∨ (Value.slice aq' xs'.length kq').ownBlock = some z) ∧ ∀ z, M' z → M z ∨ A.heap.size ≤ z)) := by
      intro B1 g cq A4 hB1 hown hg hat
      have HWB := (HW2.drew.below hB1).alloc (.cells #[.string (itoaB zk)] 9)
      obtain ⟨d1, d2, HX⟩ := HWB.grow (ys := [itoaB zk]) hown hg hat
      obtain ⟨hx1, hx2, hx3, hx4, hx5, hx6⟩ := HX.out
      have hEB : Below A2.heap.size A2 (B1.alloc (.cells #[.string (itoaB zk)] 9)) := by
        have h1 : Below A2.heap.size A2 B1 := ⟨hB1.os, hB1.tape, hB1.output, hB1.size, hB1.block⟩
        exact h1.alloc h1.size _
      have hn1 : ∀ z, (z = w5.heap.size + 1 ∨ (Value.slice aq xs.length kq).ownBlock = some z) → M z := fun z hz => (hM z).2 hz
      refine ⟨d1, d2, (Wr.of_below hEB).trans (hx5.mono hn1), fun z => z = w5.heap.size + 1 ∨ (Value.slice (some ⟨g, 0, none⟩) (xs.length + [itoaB zk].length) cq).ownBlock = some z, ⟨by omega, xs ++ [itoaB zk], _, _, HXX, hx4, ?_, fun _ => by rw [List.length_append]⟩, fun z hz => ?_⟩
      · refine hx5.some ((hEB.block _ (lt_of_block hbt2)).trans hbt2) (fun e => ?_)
        rcases e with e | e
        · omega
        · exact HW2.sep _ e (w5.heap.size + 1 + 1) (by simp) rfl
      · rcases hz with e | e
        · exact .inl ((hM z).2 (.inl e))
        · have hyg : z = g := by simpa [Value.ownBlock] using e.symm
          subst hyg
          rcases hx6 with e2 | e2
          · exact .inl ((hM _).2 (.inr e2))
          · have := hEB.size
            exact .inr (by omega)
    have HBL : Below w.heap.size w A2.drew := hbw5.trans (HW2.drew.bel.mono hbw5.size)
    clear hM hbt2
    gi_wp2
    refine wpIn_region_any hm ?_
    try (change wpAnyIn _ _ _ _ _ _ _ _ _ (World.drew _))
    refine wpAnyIn_ready (rs := [0, 1]) (by kernel_rfl) (by simp) ?_
    refine AllReadyIn.cons rfl (fun K hK => ?_) ?_
    · go_simp
      refine hK _ _ ?_
      clear hK K
      refine wpAnyIn_ready (rs := [1]) (by kernel_rfl) (by simp) ?_
      refine AllReadyIn.cons rfl (fun K hK => ?_) ?_
      · go_simp
        refine hK _ _ ?_
        clear hK K
        refine wpAnyIn_ready (rs := [2]) (by kernel_rfl) (by simp) ?_
        refine AllReadyIn.cons rfl (fun K hK => ?_) ?_
        · go_simp
          refine (CallsIn.inRound l2 (callsIn_wide.2 (HSK.out _ HBL))).mono ?_
          rintro e B1 ⟨rfl, hB1⟩
          rw [← HIB.out]
          have HWB := HW2.drew.below hB1
          have c7 := HWB.box
          have c8 := (HWB.alloc (.cells #[.string (itoaB zk)] 9)).box
          simp only []
          refine hK _ _ ?_
          clear hK K
          refine wpAnyIn_ready (rs := [3]) (by kernel_rfl) (by simp) ?_
          refine AllReadyIn.cons rfl (fun K hK => ?_) ?_
          · go_simp
            refine hK _ _ ?_
            clear hK K
            refine wpAnyIn_ready (rs := [4]) (by kernel_rfl) (by simp) ?_
            refine AllReadyIn.cons rfl (fun K hK => ?_) ?_
            · refine step_words _ rfl (.tmp 18) (.tmp 21) rfl [itoaB zk] (HWB.alloc (.cells #[.string (itoaB zk)] 9)) hxl9 (by simp) (by simp) rfl rfl (World.alloc_heap_new B1 (.cells #[.string (itoaB zk)] 9)) ?_
              intro g cap A4 hown4 hg4 hat4
              obtain ⟨d1, d2, HF⟩ := HFIN.out B1 g cap A4 hB1 hown4 hg4 hat4
              refine hK _ _ ?_
              clear hK K hown4 hg4 hat4
              refine wpAnyIn_ready (rs := [5]) (by kernel_rfl) (by simp) ?_
              refine AllReadyIn.cons rfl (fun K hK => ?_) ?_
              · go_simp
                refine hK _ _ ?_
                clear hK K
                refine wpAnyIn_done (by kernel_rfl) ?_ _
                gi_wp2
                exact HF.out
              exact AllReadyIn.nil
            exact AllReadyIn.nil
          exact AllReadyIn.nil
        exact AllReadyIn.nil
      exact AllReadyIn.nil
    refine AllReadyIn.cons rfl (fun K hK => ?_) ?_
    · go_simp
      refine hK _ _ ?_
      clear hK K
      refine wpAnyIn_ready (rs := [0, 2]) (by kernel_rfl) (by simp) ?_
      refine AllReadyIn.cons rfl (fun K hK => ?_) ?_
      · go_simp
        refine hK _ _ ?_
        clear hK K
        refine wpAnyIn_ready (rs := [2]) (by kernel_rfl) (by simp) ?_
        refine AllReadyIn.cons rfl (fun K hK => ?_) ?_
        · go_simp
          refine (CallsIn.inRound l2 (callsIn_wide.2 (HSK.out _ HBL))).mono ?_
          rintro e B1 ⟨rfl, hB1⟩
          rw [← HIB.out]
          have HWB := HW2.drew.below hB1
          have c7 := HWB.box
          have c8 := (HWB.alloc (.cells #[.string (itoaB zk)] 9)).box
          simp only []
          refine hK _ _ ?_
          clear hK K
          refine wpAnyIn_ready (rs := [3]) (by kernel_rfl) (by simp) ?_
          refine AllReadyIn.cons rfl (fun K hK => ?_) ?_
          · go_simp
            refine hK _ _ ?_
            clear hK K
            refine wpAnyIn_ready (rs := [4]) (by kernel_rfl) (by simp) ?_
            refine AllReadyIn.cons rfl (fun K hK => ?_) ?_
            · refine step_words _ rfl (.tmp 18) (.tmp 21) rfl [itoaB zk] (HWB.alloc (.cells #[.string (itoaB zk)] 9)) hxl9 (by simp) (by simp) rfl rfl (World.alloc_heap_new B1 (.cells #[.string (itoaB zk)] 9)) ?_
              intro g cap A4 hown4 hg4 hat4
              obtain ⟨d1, d2, HF⟩ := HFIN.out B1 g cap A4 hB1 hown4 hg4 hat4
              refine hK _ _ ?_
              clear hK K hown4 hg4 hat4
              refine wpAnyIn_ready (rs := [5]) (by kernel_rfl) (by simp) ?_
              refine AllReadyIn.cons rfl (fun K hK => ?_) ?_
              · go_simp
                refine hK _ _ ?_
                clear hK K
                refine wpAnyIn_done (by kernel_rfl) ?_ _
                gi_wp2
                exact HF.out
              exact AllReadyIn.nil
            exact AllReadyIn.nil
          exact AllReadyIn.nil
        exact AllReadyIn.nil
      refine AllReadyIn.cons rfl (fun K hK => ?_) ?_
      · go_simp
        refine (CallsIn.inRound l2 (callsIn_wide.2 (HSK.out _ HBL))).mono ?_
        rintro e B1 ⟨rfl, hB1⟩
        rw [← HIB.out]
        have HWB := HW2.drew.below hB1
        have c7 := HWB.box
        have c8 := (HWB.alloc (.cells #[.string (itoaB zk)] 9)).box
        simp only []
        refine hK _ _ ?_
        clear hK K
        refine wpAnyIn_ready (rs := [0, 3]) (by kernel_rfl) (by simp) ?_
        refine AllReadyIn.cons rfl (fun K hK => ?_) ?_
        · go_simp
          refine hK _ _ ?_
          clear hK K
          refine wpAnyIn_ready (rs := [3]) (by kernel_rfl) (by simp) ?_
          refine AllReadyIn.cons rfl (fun K hK => ?_) ?_
          · go_simp
            refine hK _ _ ?_
            clear hK K
            refine wpAnyIn_ready (rs := [4]) (by kernel_rfl) (by simp) ?_
            refine AllReadyIn.cons rfl (fun K hK => ?_) ?_
            · refine step_words _ rfl (.tmp 18) (.tmp 21) rfl [itoaB zk] (HWB.alloc (.cells #[.string (itoaB zk)] 9)) hxl9 (by simp) (by simp) rfl rfl (World.alloc_heap_new B1 (.cells #[.string (itoaB zk)] 9)) ?_
              intro g cap A4 hown4 hg4 hat4
              obtain ⟨d1, d2, HF⟩ := HFIN.out B1 g cap A4 hB1 hown4 hg4 hat4
              refine hK _ _ ?_
              clear hK K hown4 hg4 hat4
              refine wpAnyIn_ready (rs := [5]) (by kernel_rfl) (by simp) ?_
              refine AllReadyIn.cons rfl (fun K hK => ?_) ?_
              · go_simp
                refine hK _ _ ?_
                clear hK K
                refine wpAnyIn_done (by kernel_rfl) ?_ _
                gi_wp2
                exact HF.out
              exact AllReadyIn.nil
            exact AllReadyIn.nil
          exact AllReadyIn.nil
        refine AllReadyIn.cons rfl (fun K hK => ?_) ?_
        · go_simp
          refine hK _ _ ?_
          clear hK K
          refine wpAnyIn_ready (rs := [0]) (by kernel_rfl) (by simp) ?_
          refine AllReadyIn.cons rfl (fun K hK => ?_) ?_
          · go_simp
            refine hK _ _ ?_
            clear hK K
            refine wpAnyIn_ready (rs := [4]) (by kernel_rfl) (by simp) ?_
            refine AllReadyIn.cons rfl (fun K hK => ?_) ?_
            · refine step_words _ rfl (.tmp 18) (.tmp 21) rfl [itoaB zk] (HWB.alloc (.cells #[.string (itoaB zk)] 9)) hxl9 (by simp) (by simp) rfl rfl (World.alloc_heap_new B1 (.cells #[.string (itoaB zk)] 9)) ?_
              intro g cap A4 hown4 hg4 hat4
              obtain ⟨d1, d2, HF⟩ := HFIN.out B1 g cap A4 hB1 hown4 hg4 hat4
              refine hK _ _ ?_
              clear hK K hown4 hg4 hat4
              refine wpAnyIn_ready (rs := [5]) (by kernel_rfl) (by simp) ?_
              refine AllReadyIn.cons rfl (fun K hK => ?_) ?_
              · go_simp
                refine hK _ _ ?_
                clear hK K
                refine wpAnyIn_done (by kernel_rfl) ?_ _
                gi_wp2
                exact HF.out
              exact AllReadyIn.nil
            exact AllReadyIn.nil
          exact AllReadyIn.nil
        exact AllReadyIn.nil
      exact AllReadyIn.nil
    exact AllReadyIn.nil
  case stop =>
    rintro D c k A hD hk h hd
    exact h.elim
  case done =>
    rintro D1 M A hD1 ⟨h1, xs, aq, kq, hxs, hW, hbt, hM⟩ hd1
    rw [aimVs_len] at hxs
    rw [List.take_of_length_le (by omega)] at hxs
    have hD1s : w5.heap.size < D1 := by simp at hD1; omega
    have hxl : xs.length = p.n + 1 := by rw [hxs.out]; simp; omega
    obtain ⟨gq, rfl, _, _, _, _⟩ := hW.row (by omega)
    have HJX : Hid (Lib.join (xs.map (fun x : ByteArray => x.data.toList)) [32] ++ [10] = t2) := by rw [Hid, hxs.out]; exact HJM.out
    have HJ7 := join_words _ _ _ _ xs _ gq kq hW (by omega) (by omega) (by have := congrArg List.length HJX.out; rw [List.length_append] at this; omega)
    rw [HJX.out] at HJ7
    have HJ := hide HJ7
    have c6 := hW.box
    have hbA : Below w5.heap.size w5 A := hW.bel
    clear HJ7 hW hxs hM hbt HJX HWS hxl
    gi_wp2
    refine (callsIn_wide.2 HJ.out).mono ?_
    rintro e w6 ⟨rfl, hb6⟩
    have hb56 : Below w5.heap.size w5 w6 := hbA.trans (hb6.mono hbA.size)
    have HB6 := HB5.below hb56
    have hd6 := (hb6.block D1 (lt_of_block hd1)).trans hd1
    have hpb6 := (hb56.block _ (lt_of_block hpb5)).trans hpb5
    have hbw6 := hbw5.trans (hb56.mono hbw5.size)
    gi_wp2
    refine (callsIn_wide.2 (write_bd w.heap.size (w.heap.size + 1) t1 v1 t2 w6 HB6 (by omega) (by omega) hbw6.size)).mono ?_
    rintro e w7 ⟨⟨r2, rfl⟩, v2, HB7, hb7, hw7, ho7⟩
    have HS7 : StI w (w.heap.size + 1) (t1 ++ t2) v2 (.cells #[.slice ao p.n cap, .slice ap p.rows.length kp] 109 (0, 0)) w.heap.size (.cells #[.slice ao p.n cap, .slice ap p.rows.length kp] 109 (0, 0)) [D1] w7 :=
      StI.write (txt := t1) (v := v1) (A := w6) (A2 := w6) ⟨HB6, hbw6, hpb6, hpb6, fun D hD => by rw [List.mem_singleton.1 hD]; exact hd6⟩ (Below.refl _ _) (by decide) (by decide) ⟨by omega, by omega, fun D hD => by rw [List.mem_singleton.1 hD]; omega⟩ HB7 hb7 hw7
    have HS := hide HS7
    have hD7 : D1 < w7.heap.size := by have := lt_of_block hd6; have := hb7.size; omega
    have q0 : w7.cell? ⟨w.heap.size, 0, none⟩ = some (.slice ao p.n cap) := cell_of_row _ _ _ _ _ _ HS7.2.2.1
    have q1 : w7.cell? ⟨w.heap.size, 1, none⟩ = some (.slice ap p.rows.length kp) := cell_of_row _ _ _ _ _ _ HS7.2.2.1
    clear HS7 HB7 hb7 hw7 ho7 HB6 hd6 hpb6 hbw6 hb56 hb6 HJ HB5 hpb5 hd1 hbA c6 ho5
    gi_wp2
    refine (callsIn_wide.2 (columns_mk _ _ _ _ _)).mono ?_
    rintro e w8 ⟨rfl, rfl⟩
    clear q0 q1
    have HS8 : Hid (StI w (w.heap.size + 1) (t1 ++ t2) v2 (.cells #[.slice ao p.n cap, .slice ap p.rows.length kp] 109 (0, 0)) (w7.heap.size + 1) (.cells #[.slice ao p.n cap] 106 (0, 0)) [D1] ((w7.alloc (.cells #[.slice ao p.n cap, .slice ap p.rows.length kp] 109)).alloc (.cells #[.slice ao p.n cap] 106))) := by
      have hkk := (Keep.alloc (D1 + 1) w7 (.cells #[.slice ao p.n cap, .slice ap p.rows.length kp] 109)).trans (Keep.alloc (D1 + 1) _ (.cells #[.slice ao p.n cap] 106))
      obtain ⟨z1, z2, z3, _, z5⟩ := HS.out.keep hkk (by omega) (fun D hD => by rw [List.mem_singleton.1 hD]; omega)
      refine ⟨z1, z2, z3, ?_, z5⟩
      have t := World.alloc_heap_new (w7.alloc (.cells #[.slice ao p.n cap, .slice ap p.rows.length kp] 109)) (.cells #[.slice ao p.n cap] 106)
      simp only [World.size_alloc] at t
      exact t
    have hw78 : w.heap.size + 1 < w7.heap.size := by have := HS.out.1.lt.1; omega
    clear HS
    gi_wp2
    refine range_list (each_seq_column x ao bc p.n cap (w7.heap.size + 1) (by omega) hao) rfl (enters_f Tryz.func244 (by kernel_rfl) rfl) (fun v hv => ?_)
      (fun k M A => k ≤ p.n ∧ ∃ txt v, Hid (txt = t1 ++ t2 ++ (p.rg.take k).flatMap rangeS) ∧ Hid (StI w (w.heap.size + 1) txt v (.cells #[.slice ao p.n cap, .slice ap p.rows.length kp] 109 (0, 0)) (w7.heap.size + 1) (.cells #[.slice ao p.n cap] 106 (0, 0)) [D1] A) ∧ ∀ z, M z ↔ z = w.heap.size + 1 ∨ v.ownBlock = some z)
      (fun c k A => False) (fun z => z = w.heap.size + 1 ∨ v2.ownBlock = some z) ?hI ?hIx ?hC ?h0 ?round ?done ?stop
    case hI =>
      rintro k M A B' ⟨h1, txt, v, h2, h3, h4⟩ hk
      exact ⟨h1, txt, v, h2, h3.out.keep hk (by simp; omega) (fun D hD => by rw [List.mem_singleton.1 hD]; simp; omega), h4⟩
    case hIx =>
      rintro c k A B' h _
      exact h.elim
    case hC =>
      rintro k M A ⟨h1, txt, v, h2, h3, h4⟩
      refine ⟨⟨cell_of_row _ _ _ _ _ _ h3.out.2.2.2.1, fun i j hi hj => ?_⟩, fun z hz => ?_⟩
      · exact (h3.out.2.1.cell (p := ⟨bc, i * 6 + j, none⟩) (hbcl (by omega))).trans (HXC.out i j hi hj)
      · rcases (h4 z).1 hz with e | e
        · rw [e]; exact h3.out.1.lt.1
        · exact (h3.out.1.lt.2 z e).2
    case h0 => exact ⟨Nat.zero_le _, t1 ++ t2, v2, by simp [Hid], HS8, fun _ => Iff.rfl⟩
    case round =>
      rintro l2 k v M A hv ⟨hkn0, txt, vb, htx, hSt, hM⟩
      have hkn : k < p.n := by
        have := (List.getElem?_eq_some_iff.1 hv).1
        rwa [columnVs_len] at this
      rw [columnVs_get hkn] at hv
      injection hv with hv
      subst hv
      obtain ⟨y0, a0, l0, c0, e0, e1⟩ := HXS.out k 0 hkn (by omega)
      obtain ⟨y1, a1, l1, c1, e2, e3⟩ := HXS.out k 1 hkn (by omega)
      obtain ⟨y2, a2, l2', c2, e4, e5⟩ := HXS.out k 2 hkn (by omega)
      simp only [Nat.mul_zero, Nat.mul_one, Nat.zero_add, Nat.reduceMul, Nat.reduceAdd] at e0 e1 e2 e3 e4 e5
      obtain ⟨_, hw1, hw2⟩ := HXW.out k hkn
      rw [e2, e3] at hw1
      rw [e4, e5] at hw2
      rw [e0, e1, e2, e3, e4, e5]
      clear e0 e1 e2 e3 e4 e5
      have hmem : p.rg.getD k (0, 0) ∈ p.rg := by rw [List.getD_eq_getElem?_getD, List.getElem?_eq_getElem (by omega)]; exact List.getElem_mem _
      obtain ⟨hz1, hz2⟩ := hbg _ hmem
      have HS1 := hide (fun W hW => HST.out _ _ hw1 hz1 W hW)
      have HS2 := hide (fun W hW => HST.out _ _ hw2 hz2 W hW)
      have HTK : Hid (txt ++ rangeS (p.rg.getD k (0, 0)) = t1 ++ t2 ++ (p.rg.take (k + 1)).flatMap rangeS) := by rw [Hid, htx.out, take_flat rangeS p.rg k (0, 0) (by omega), List.append_assoc (t1 ++ t2)]
      have hrl := rangeS_len _ ⟨hz1, hz2⟩
      have htl : txt.length ≤ 100000 := by rw [htx.out]; have := HL3.out k; simp only [List.length_append]; omega
      obtain ⟨lo, hi, hlh⟩ : ∃ lo hi, p.rg.getD k (0, 0) = (lo, hi) := ⟨_, _, rfl⟩
      rw [hlh] at HS1 HS2 HTK hrl
      simp only at HS1 HS2
      have HJR := hide (join_range lo hi)
      clear hlh hmem hz1 hz2 hw1 hw2 HXC HXS HXW HYC HYW HJV HJM HST HLN HL3 HL4 HTX HS8 htx
      unfold RoundOK
      gi_wp2
      refine ⟨Wr.of_below ((Below.refl _ _).alloc (Nat.le_refl _) _), fun A2 hk2 => ?_⟩
      have hka := (Keep.alloc _ A _).trans hk2
      have HSA : Hid (StI w (w.heap.size + 1) txt vb (.cells #[.slice ao p.n cap, .slice ap p.rows.length kp] 109 (0, 0)) (w7.heap.size + 1) (.cells #[.slice ao p.n cap] 106 (0, 0)) [D1] A2) := hSt.out.keep hka (by simp; omega) (fun D hD => by rw [List.mem_singleton.1 hD]; simp; omega)
      have hcol := fun j v (hv : (#[Value.bool y0, .slice a0 l0 c0, .bool y1, .slice a1 l1 c1, .bool y2, .slice a2 l2' c2] : Array Value)[j]? = some v) => hk2.cell ((cell_of_row _ _ j _ _ _ (World.alloc_heap_new A (.cells #[.bool y0, .slice a0 l0 c0, .bool y1, .slice a1 l1 c1, .bool y2, .slice a2 l2' c2] 153))).trans hv)
      have p2 := hcol 2 _ rfl
      have p3 := hcol 3 _ rfl
      have p4 := hcol 4 _ rfl
      have p5 := hcol 5 _ rfl
      have hA2 : A.heap.size < A2.heap.size := block_lt_of_cell p2
      have HBL : Below w.heap.size w A2.drew := below_drewD HSA.out.2.1
      clear hcol hk2 hka hSt
      gi_wp2
      gi_region_with_o (first | (gi_at_call 85; refine (CallsIn.inRound l2 (callsIn_wide.2 (write_bd w.heap.size (w.heap.size + 1) txt vb (rangeS (lo, hi)) _ HBB3 (by omega) (by omega) hbs3))).mono ?_; rintro e A3 ⟨⟨r3, rfl⟩, v3, HB4, hb4, hw4, ho4⟩) | (gi_at_call 86; refine (CallsIn.inRound l2 (callsIn_wide.2 HJ2)).mono ?_; rintro e B3 ⟨rfl, hB3⟩; have hBB3 : Below A2.heap.size A2 B3 := hbb2.trans (hB3.mono hbb2.size); have HBB3 := HSA.out.1.below hBB3; have hbs3 : w.heap.size ≤ B3.heap.size := (by have := hBB3.size; have := HSA.out.2.1.size; omega)) | (gi_at_call 80; have _g := hB1; refine (CallsIn.inRound l2 (callsIn_wide.2 (HS2.out _ hbl1))).mono ?_; rintro e B2 ⟨rfl, hB2⟩; have hbb2 : Below A2.heap.size A2 B2 := hbb1.trans (hB2.mono hbb1.size); have HJ2 := join_new B2 [⟨wRange.toArray⟩, itoaB lo, itoaB hi] (by simp) (by have := congrArg List.length HJR.out; rw [List.length_append] at this; omega) 3 rfl; rw [HJR.out] at HJ2) | (gi_at_call 80; refine (CallsIn.inRound l2 (callsIn_wide.2 (HS1.out _ (by exact HBL)))).mono ?_; rintro e B1 ⟨rfl, hB1⟩; have hbb1 : Below A2.heap.size A2 B1 := ⟨hB1.os, hB1.tape, hB1.output, hB1.size, hB1.block⟩; have hbl1 : Below w.heap.size w B1 := HSA.out.2.1.trans (hbb1.mono HSA.out.2.1.size); have p4' := (hbb1.cell (p := ⟨A.heap.size, 4, none⟩) hA2).trans p4; have p5' := (hbb1.cell (p := ⟨A.heap.size, 5, none⟩) hA2).trans p5))
      all_goals gi_wp2
      all_goals exact ⟨(Wr.of_below hBB3).trans (hw4.mono (fun z hz => (hM z).2 hz)), fun z => z = w.heap.size + 1 ∨ v3.ownBlock = some z, ⟨by omega, _, v3, HTK, HSA.out.write hBB3 (by decide) (by decide) ⟨by omega, by omega, fun D hD => by rw [List.mem_singleton.1 hD]; omega⟩ HB4 hb4 hw4, fun _ => Iff.rfl⟩, fun z hz => by
        rcases hz with e | e
        · exact .inl ((hM z).2 (.inl e))
        · rcases ho4 z e with e | e
          · exact .inl ((hM z).2 (.inr e))
          · exact .inr (by have := hBB3.size; omega)⟩
    case stop =>
      rintro D c k A hD hk h hd
      exact h.elim
    case done =>
      rintro D2 M A hD2 ⟨h1', txt, vb, htx, hSt, hM⟩ hd2
      rw [columnVs_len] at htx
      rw [List.take_of_length_le (by omega)] at htx
      have hD2s : w7.heap.size < D2 := by simp at hD2; omega
      have hD2l : D2 < A.heap.size := lt_of_block hd2
      have q0 : A.cell? ⟨w.heap.size, 0, none⟩ = some (.slice ao p.n cap) := cell_of_row _ _ _ _ _ _ hSt.out.2.2.1
      have q1 : A.cell? ⟨w.heap.size, 1, none⟩ = some (.slice ap p.rows.length kp) := cell_of_row _ _ _ _ _ _ hSt.out.2.2.1
      clear hM HS8
      gi_wp2
      refine (callsIn_wide.2 (rows_mk _ _ _ _ _)).mono ?_
      rintro e w9 ⟨rfl, rfl⟩
      clear q0 q1
      have HS9 : Hid (StI w (w.heap.size + 1) txt vb (.cells #[.slice ao p.n cap, .slice ap p.rows.length kp] 109 (0, 0)) (A.heap.size + 1) (.cells #[.slice ap p.rows.length kp] 107 (0, 0)) [D1, D2] ((A.alloc (.cells #[.slice ao p.n cap, .slice ap p.rows.length kp] 109)).alloc (.cells #[.slice ap p.rows.length kp] 107))) := by
        have hkk := (Keep.alloc A.heap.size A (.cells #[.slice ao p.n cap, .slice ap p.rows.length kp] 109)).trans (Keep.alloc A.heap.size _ (.cells #[.slice ap p.rows.length kp] 107))
        obtain ⟨z1, z2, z3, _, z5⟩ := hSt.out.keep hkk (by omega) (fun D hD => by rw [List.mem_singleton.1 hD]; omega)
        refine ⟨z1, z2, z3, ?_, fun D hD => ?_⟩
        · have t := World.alloc_heap_new (A.alloc (.cells #[.slice ao p.n cap, .slice ap p.rows.length kp] 109)) (.cells #[.slice ap p.rows.length kp] 107)
          simp only [World.size_alloc] at t
          exact t
        · simp only [List.mem_cons, List.not_mem_nil, or_false] at hD
          rcases hD with rfl | rfl
          · exact z5 _ (by simp)
          · exact hkk.block _ _ hd2 (.inl hD2l)
      clear hSt hd2
      gi_wp2
      refine range_list (each_seq_row y ap gR p.rows.length kp (A.heap.size + 1) (by omega) hap) rfl (enters_f Tryz.func246 (by kernel_rfl) rfl) (fun v hv => ?_)
        (fun k M A' => k ≤ p.rows.length ∧ ∃ txt' v, Hid (txt' = txt ++ (p.rows.take k).flatMap rowS) ∧ Hid (StI w (w.heap.size + 1) txt' v (.cells #[.slice ao p.n cap, .slice ap p.rows.length kp] 109 (0, 0)) (A.heap.size + 1) (.cells #[.slice ap p.rows.length kp] 107 (0, 0)) [D1, D2] A') ∧ ∀ z, M z ↔ z = w.heap.size + 1 ∨ v.ownBlock = some z)
        (fun c k A => False) (fun z => z = w.heap.size + 1 ∨ vb.ownBlock = some z) ?hI ?hIx ?hC ?h0 ?round ?done ?stop
      case hI =>
        rintro k M A' B' ⟨h1, txt', v, h2, h3, h4⟩ hk
        exact ⟨h1, txt', v, h2, h3.out.keep hk (by simp; omega) (fun D hD => by simp only [List.mem_cons, List.not_mem_nil, or_false] at hD; simp; omega), h4⟩
      case hIx =>
        rintro c k A' B' h _
        exact h.elim
      case hC =>
        rintro k M A' ⟨h1, txt', v, h2, h3, h4⟩
        refine ⟨⟨cell_of_row _ _ _ _ _ _ h3.out.2.2.2.1, fun i j hi hj => ?_⟩, fun z hz => ?_⟩
        · exact (h3.out.2.1.cell (p := ⟨gR, i * 4 + j, none⟩) (hgRl (by omega))).trans (HYC.out i j hi hj)
        · rcases (h4 z).1 hz with e | e
          · rw [e]; exact h3.out.1.lt.1
          · exact (h3.out.1.lt.2 z e).2
      case h0 => exact ⟨Nat.zero_le _, txt, vb, by simp [Hid], HS9, fun _ => Iff.rfl⟩
      case round =>
        rintro l2 k v M A' hv ⟨hkn0, txt', vc, htx', hSt, hM⟩
        have hkn : k < p.rows.length := by
          have := (List.getElem?_eq_some_iff.1 hv).1
          rwa [rowVs_len] at this
        rw [rowVs_get hkn] at hv
        injection hv with hv
        subst hv
        obtain ⟨T, r, e0, e1, e2, e3, hri⟩ := HYW.out k hkn
        rw [e0, e1, e2, e3]
        have hmem : p.rows.getD k ([], [], 0) ∈ p.rows := by rw [List.getD_eq_getElem?_getD, List.getElem?_eq_getElem hkn]; exact List.getElem_mem _
        have hbb := hbr _ hmem
        have HLK := hide (fun W hW => HLN.out T r _ hri hbb W hW)
        have hrl := rowS_len _ hbb.1 hbb.2.1 hbb.2.2.1 hbb.2.2.2
        have HTK : Hid (txt' ++ rowS (p.rows.getD k ([], [], 0)) = txt ++ (p.rows.take (k + 1)).flatMap rowS) := by rw [Hid, htx'.out, take_flat rowS p.rows k ([], [], 0) hkn, List.append_assoc]
        have htl : txt'.length ≤ 100000 := by rw [htx'.out, htx.out]; have := HL4.out k; have := HL3.out p.rg.length; rw [List.take_of_length_le (Nat.le_refl _)] at this; simp only [List.length_append]; omega
        generalize p.rows.getD k ([], [], 0) = row at *
        clear e0 e1 e2 e3 hri hmem hbb HXC HXS HXW HYC HYW HJV HJM HST HLN HL3 HL4 HTX HS9 htx'
        obtain ⟨rs, rx, ⟨bo, bl, bk⟩, rf, rn⟩ := r
        simp only at HLK ⊢
        unfold RoundOK
        gi_wp2
        refine ⟨Wr.of_below ((Below.refl _ _).alloc (Nat.le_refl _) _), fun A2 hk2 => ?_⟩
        have hka := (Keep.alloc _ A' _).trans hk2
        have HSA : Hid (StI w (w.heap.size + 1) txt' vc (.cells #[.slice ao p.n cap, .slice ap p.rows.length kp] 109 (0, 0)) (A.heap.size + 1) (.cells #[.slice ap p.rows.length kp] 107 (0, 0)) [D1, D2] A2) := hSt.out.keep hka (by simp; omega) (fun D hD => by simp only [List.mem_cons, List.not_mem_nil, or_false] at hD; simp; omega)
        have hcol := fun j v (hv : (#[Value.string rs, .bool rx, .slice bo bl bk, .slice (some ⟨rf, 0, none⟩) rn rn] : Array Value)[j]? = some v) => hk2.cell ((cell_of_row _ _ j _ _ _ (World.alloc_heap_new A' (.cells #[.string rs, .bool rx, .slice bo bl bk, .slice (some ⟨rf, 0, none⟩) rn rn] 160))).trans hv)
        have p0 := hcol 0 _ rfl
        have p1 := hcol 1 _ rfl
        have p2 := hcol 2 _ rfl
        have p3 := hcol 3 _ rfl
        have hA2 : A'.heap.size < A2.heap.size := block_lt_of_cell p2
        have HBL : Below w.heap.size w A2 := HSA.out.2.1
        clear hcol hk2 hka hSt
        gi_wp2
        refine (CallsIn.inRound l2 (callsIn_wide.2 (HLK.out _ HBL))).mono ?_
        rintro e B1 ⟨rfl, hB1⟩
        gi_wp2
        refine (CallsIn.inRound l2 (callsIn_wide.2 (write_bd w.heap.size (w.heap.size + 1) txt' vc (rowS row) B1 (HSA.out.1.below hB1) (by omega) (by omega) (by have := hB1.size; have := HBL.size; omega)))).mono ?_
        rintro e A3 ⟨⟨r3, rfl⟩, v3, HB4, hb4, hw4, ho4⟩
        gi_wp2
        exact ⟨(Wr.of_below hB1).trans (hw4.mono (fun z hz => (hM z).2 hz)), fun z => z = w.heap.size + 1 ∨ v3.ownBlock = some z, ⟨by omega, _, v3, HTK, HSA.out.write hB1 (by decide) (by decide) ⟨by omega, by omega, fun D hD => by simp only [List.mem_cons, List.not_mem_nil, or_false] at hD; omega⟩ HB4 hb4 hw4, fun _ => Iff.rfl⟩, fun z hz => by
          rcases hz with e | e
          · exact .inl ((hM z).2 (.inl e))
          · rcases ho4 z e with e | e
            · exact .inl ((hM z).2 (.inr e))
            · exact .inr (by have := hB1.size; omega)⟩
      case stop =>
        rintro D c k A hD hk h hd
        exact h.elim
      case done =>
        rintro D3 M A3 hD3 ⟨_, txt', vc, htx', hSt, hM⟩ hd3
        rw [rowVs_len] at htx'
        rw [List.take_of_length_le (Nat.le_refl _)] at htx'
        have HTT : Hid (txt' = textS p) := by rw [Hid, HTX.out, htx'.out, htx.out]
        have hD3s : A.heap.size < D3 := by simp at hD3; omega
        have HBS := hide (Tryz.Builder_String_any_k w.heap.size (w.heap.size + 1) txt' A3 hSt.out.1.is hSt.out.2.1.size)
        have hd1 := hSt.out.2.2.2.2 D1 (by simp)
        have hd2 := hSt.out.2.2.2.2 D2 (by simp)
        have hbel := hSt.out.2.1
        clear hM HS9 HXC HXS HXW HYC HYW HJV HJM HST HLN HL3 HL4 HTX htx' htx hSt
        gi_wp2
        refine (callsIn_wide.2 HBS.out).mono ?_
        rintro e w10 ⟨rfl, _, hb10, hk10⟩
        have k1 := hk10 D1 _ hd1 (fun e => by injection e with e; omega) (fun c fz e => by cases e)
        have k2 := hk10 D2 _ hd2 (fun e => by injection e with e; omega) (fun c fz e => by cases e)
        have k3 := hk10 D3 _ hd3 (fun e => by injection e with e; omega) (fun c fz e => by cases e)
        rw [HTT.out]
        have hbw := hbel.trans hb10
        clear HBS hk10 hd1 hd2 hd3
        gi_wp2
        refine leave_mark k3 ?_
        have k2' : (w10.putObj D3 (.deferred none)).heap[D2]? = some (.deferred (some [])) := (World.putObj_heap_other (by omega)).trans k2
        have k1' : (w10.putObj D3 (.deferred none)).heap[D1]? = some (.deferred (some [])) := (World.putObj_heap_other (by omega)).trans k1
        refine leave_mark k2' ?_
        have k1'' : ((w10.putObj D3 (.deferred none)).putObj D2 (.deferred none)).heap[D1]? = some (.deferred (some [])) := (World.putObj_heap_other (by omega)).trans k1'
        refine leave_mark k1'' ?_
        have hkp := ((Keep.putObj (B := w.heap.size) (.deferred none) (by omega) k3 rfl).trans (Keep.putObj (.deferred none) (by omega) k2' rfl)).trans (Keep.putObj (.deferred none) (by omega) k1'' rfl)
        exact ⟨.string ⟨(textS p).toArray⟩, by simp [results, Tryz.results60, go_sem], rfl, hkp.below hbw (Nat.le_refl _) (Nat.le_refl _)⟩
      · obtain ⟨i, hi, rfl⟩ := List.mem_map.1 hv
        rfl
    · obtain ⟨i, hi, rfl⟩ := List.mem_map.1 hv
      rfl
  · obtain ⟨i, hi, rfl⟩ := List.mem_map.1 hv
    rfl
end Go.Proofs.YtnhfdcfnojnofaaGreatDoor
