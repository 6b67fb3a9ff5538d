/-
  Part 26 of the texts ahead of Pks1: Dvr4, Dvr5, Dvs1.
-/
import Derived.Test.YtnhfdcfnojnofaaGreatDoorPks1Z25
import Derived.Test.YtnhfdcfnojnofaaGreatDoorShelf
import Derived.Test.YtnhfdcfnojnofaaGreatDoorPks1Z9
import Derived.Test.YtnhfdcfnojnofaaGreatDoorPks1Z8
set_option linter.unusedSimpArgs false
set_option linter.unusedVariables false
/-
  What tooWide does (package problem).
-/
namespace Go.Proofs.YtnhfdcfnojnofaaGreatDoor
open Go.RowKit
attribute [local go_sem] Oper.semAt_some wide_depth wide_fn

theorem wideS_at {rg : List (Int × Int)} {k : Nat} (hk : k < rg.length) : wideS k (rg.drop k) = if 7 < (rg.getD k (0, 0)).2 - (rg.getD k (0, 0)).1 then some k else wideS (k + 1) (rg.drop (k + 1)) := by
  rw [List.drop_eq_getElem_cons hk, wideS, List.getD_eq_getElem?_getD, List.getElem?_eq_getElem hk]
  rfl

theorem ten40K {n : Nat} (h : n < 10 ^ 40) : n < 4294967296 ^ 5 := Nat.lt_trans h (by decide)

/-- What a line of the first range that is too wide is; 0: none is. -/
def wideN (rg : List (Int × Int)) : Nat := match wideS 0 rg with | some k => k + 3 | .none => 0

set_option maxHeartbeats 4000000 in
set_option maxRecDepth 100000 in
theorem tooWide_any (gp n : Nat) (ao : Option Addr) (cap : Nat) (vR : Value) (x : Nat → Nat → Value) (b : Nat) (rg : List (Int × Int)) (w : World) (h : w.cell? ⟨gp, 0, none⟩ = some (.slice ao n cap)) (h2 : w.cell? ⟨gp, 1, none⟩ = some vR) (hn : n ≤ 4) (hao : 0 < n → ao = some ⟨b, 0, none⟩) (hrl : rg.length = n)
    (hc : ∀ i j, i < n → j < 6 → w.cell? ⟨b, i * 6 + j, none⟩ = some (x i j)) (hxs : ∀ k t, k < n → t < 3 → ∃ b a l c, x k (2 * t) = .bool b ∧ x k (2 * t + 1) = .slice a l c) (hx : ∀ k, k < n → WholeV w (.agg #[x k 2, x k 3]) (rg.getD k (0, 0)).1 ∧ WholeV w (.agg #[x k 4, x k 5]) (rg.getD k (0, 0)).2 ∧ (rg.getD k (0, 0)).1.natAbs < 10 ^ 40 ∧ (rg.getD k (0, 0)).2.natAbs < 10 ^ 40) :
    Calls Tryz.prog 84 #[.pointer (some ⟨gp, 0, none⟩)] w fun e w' => e = .returned (.int .i64 (wideN rg : Nat)) ∧ Below w.heap.size w w' := by
  have hm : Tryz.prog.follows .mixedOrders = true := by kernel_rfl
  have g0 : ((w.alloc (.cells #[.int .i64 0] 3)).alloc (.cells #[.int .i64 2] 3)).cell? ⟨gp, 0, none⟩ = some (.slice ao n cap) := ((Keep.alloc 0 w _).trans (Keep.alloc 0 _ _)).cell h
  have g1 : ((w.alloc (.cells #[.int .i64 0] 3)).alloc (.cells #[.int .i64 2] 3)).cell? ⟨gp, 1, none⟩ = some vR := ((Keep.alloc 0 w _).trans (Keep.alloc 0 _ _)).cell h2
  have HC := hide hc
  have HX := hide hx
  clear hc hx
  have hbl : 0 < n → b < w.heap.size := fun h0 => block_lt_of_cell (HC.out 0 0 h0 (by omega))
  obtain ⟨t0, t1, t2, t3⟩ := quad_heap w (.cells #[.int .i64 0] 3) (.cells #[.int .i64 2] 3) (.cells #[.slice ao n cap, vR] 109) (.cells #[.slice ao n cap] 106)
  have HT := hide (And.intro t0 (And.intro t1 t3))
  clear t0 t1 t2 t3
  refine (callsIn_wide (n := 0)).1 ?_
  refine callsIn_of_wp_marks Tryz.func84 rfl trivial ?_ rfl
  simp only [Tryz.ntmps84, List.size_toArray, List.length_cons, List.length_nil, Nat.reduceAdd, Nat.reduceSub, Array.replicate_succ, Array.replicate_zero, List.push_toArray, List.append_toArray, List.nil_append, List.cons_append]
  gi_wp2
  refine (callsIn_wide.2 (columns_mk _ _ _ _ _)).mono ?_
  rintro e w1 ⟨rfl, rfl⟩
  gi_wp2
  refine range_list (each_seq_column x ao b n cap (w.heap.size + 1 + 1 + 1) (by omega) hao) rfl (enters_f Tryz.func244 (by kernel_rfl) rfl) (fun v hv => ?_)
    (fun k M A => k ≤ n ∧ A.cell? ⟨w.heap.size + 1, 0, none⟩ = some (.int .i64 ((k : Int) + 2)) ∧ A.frozen? ⟨w.heap.size + 1, 0, none⟩ = false ∧ A.cell? ⟨w.heap.size, 0, none⟩ = some (.int .i64 0) ∧ A.frozen? ⟨w.heap.size, 0, none⟩ = false ∧ A.cell? ⟨w.heap.size + 1 + 1 + 1, 0, none⟩ = some (.slice ao n cap) ∧ Below w.heap.size w A ∧ Hid (wideS 0 rg = wideS k (rg.drop k)) ∧ ∀ y, M y ↔ y = w.heap.size ∨ y = w.heap.size + 1)
    (fun c k A => c = .ret ∧ A.cell? ⟨w.heap.size, 0, none⟩ = some (.int .i64 ((k : Int) + 3)) ∧ Below w.heap.size w A ∧ Hid (wideS 0 rg = some k))
    (fun y => y = w.heap.size ∨ y = w.heap.size + 1) ?hI ?hIx ?hC ?h0 ?round ?done ?stop
  case hI =>
    rintro k M A B' ⟨h1, h2, h3, h4, h5, h6, h7, h8, h9⟩ hk
    exact ⟨h1, hk.cell h2, (hk.frozen h2).trans h3, hk.cell h4, (hk.frozen h4).trans h5, hk.cell h6, hk.below h7 (by simp; omega) (Nat.le_refl _), h8, h9⟩
  case hIx =>
    rintro c k A B' ⟨h1, h2, h3, h4⟩ hk
    exact ⟨h1, hk.cell h2, hk.below h3 (by simp; omega) (Nat.le_refl _), h4⟩
  case hC =>
    rintro k M A ⟨h1, h2, h3, h4, h5, h6, h7, h8, h9⟩
    refine ⟨⟨h6, fun i j hi hj => (h7.cell (p := ⟨b, i * 6 + j, none⟩) (hbl (by omega))).trans (HC.out i j hi hj)⟩, fun y hy => ?_⟩
    have := block_lt_of_cell h2
    rcases (h9 y).1 hy with e | e
    · simp at this; omega
    · rw [e]; exact this
  case h0 =>
    obtain ⟨t0, t1, t3⟩ := HT.out
    exact ⟨Nat.zero_le _, cell_of_row _ _ _ _ _ _ t1, frozen_of_row _ _ _ _ _ t1, cell_of_row _ _ _ _ _ _ t0, frozen_of_row _ _ _ _ _ t0, cell_of_row _ _ _ _ _ _ t3, (below3 w _ _ _).alloc (by simp; omega) _, by rw [Hid, List.drop_zero], fun _ => Iff.rfl⟩
  case round =>
    rintro l2 k v M A hv ⟨hk0, h2, h3, h4, h5, h6, h7, h8, h9⟩
    have hkn : k < n := by
      have := (List.getElem?_eq_some_iff.1 hv).1
      rwa [columnVs_len] at this
    rw [columnVs_get hkn] at hv
    injection hv with hv
    subst hv
    have hxk := HX.out k hkn
    have HWD := hide (wideS_at (rg := rg) (k := k) (by omega))
    obtain ⟨y0, a0, l0, c0, e0, e1⟩ := hxs k 0 hkn (by omega)
    obtain ⟨y1, a1, l1, c1, e2, e3⟩ := hxs k 1 hkn (by omega)
    obtain ⟨y2, a2, l2', c2, e4, e5⟩ := hxs k 2 hkn (by omega)
    simp only [Nat.mul_zero, Nat.mul_one, Nat.zero_add, Nat.reduceMul, Nat.reduceAdd] at e0 e1 e2 e3 e4 e5
    rw [e2, e3, e4, e5] at hxk
    rw [e0, e1, e2, e3, e4, e5]
    obtain ⟨hw1, hw2, hz1, hz2⟩ := hxk
    have hzz : ((rg.getD k (0, 0)).2 - (rg.getD k (0, 0)).1).natAbs < 4294967296 ^ 6 := by
      have h40 : (10 : Nat) ^ 40 + 10 ^ 40 < 4294967296 ^ 6 := by decide
      omega
    obtain ⟨lo, hlo⟩ : ∃ lo, (rg.getD k (0, 0)).1 = lo := ⟨_, rfl⟩
    obtain ⟨hi, hhi⟩ : ∃ hi, (rg.getD k (0, 0)).2 = hi := ⟨_, rfl⟩
    rw [hlo, hhi] at HWD hzz
    rw [hlo] at hw1 hz1
    rw [hhi] at hw2 hz2
    clear hlo hhi e0 e1 e2 e3 e4 e5
    unfold RoundOK
    gi_wp2
    refine ⟨Wr.of_below ((Below.refl _ _).alloc (Nat.le_refl _) _), fun A2 hk2 => ?_⟩
    have hka := (Keep.alloc _ A _).trans hk2
    have hcol := fun j v (hv : (#[Value.bool y0, .slice a0 l0 c0, .bool y1, .slice a1 l1 c1, .bool y2, .slice a2 l2' c2] : Array Value)[j]? = some v) => hk2.cell ((cell_of_row _ _ j _ _ _ (World.alloc_heap_new A (.cells #[.bool y0, .slice a0 l0 c0, .bool y1, .slice a1 l1 c1, .bool y2, .slice a2 l2' c2] 153))).trans hv)
    have p2 := hcol 2 _ rfl
    have p3 := hcol 3 _ rfl
    have p4 := hcol 4 _ rfl
    have p5 := hcol 5 _ rfl
    clear hcol
    have hAl : w.heap.size + 1 < A.heap.size := block_lt_of_cell h2
    have hA2 : A.heap.size < A2.heap.size := block_lt_of_cell p2
    have q2 := hka.cell h2
    have q3 := (hka.frozen h2).trans h3
    have q4 := hka.cell h4
    have q5 := (hka.frozen h4).trans h5
    have q6 := hka.cell h6
    have q7 := hka.below h7 (by simp; omega) (Nat.le_refl _)
    clear hk2 hka h2 h3 h4 h5 h6 h7
    obtain ⟨A3, hA3⟩ : ∃ A3, A2.setCell ⟨w.heap.size + 1, 0, none⟩ (.int .i64 ((k : Int) + 2 + 1)) = A3 := ⟨_, rfl⟩
    have hw3 : Wr M A2 A3 := by rw [← hA3]; exact (Wr.refl _ _).setCell (p := ⟨w.heap.size + 1, 0, none⟩) ((h9 _).2 (.inr rfl)) _
    have hb3 : Below w.heap.size w A3 := by rw [← hA3]; exact q7.setCell (p := ⟨w.heap.size + 1, 0, none⟩) (by simp) _
    have s2 : A3.cell? ⟨w.heap.size + 1, 0, none⟩ = some (.int .i64 ((k : Int) + 2 + 1)) := by rw [← hA3]; exact World.cell?_setCell_same _ _ _ q2
    have s3 : A3.frozen? ⟨w.heap.size + 1, 0, none⟩ = false := by rw [← hA3]; simpa using q3
    have s4 : A3.cell? ⟨w.heap.size, 0, none⟩ = some (.int .i64 0) := by rw [← hA3, World.cell?_setCell_far _ _ _ _ (by simp)]; exact q4
    have s5 : A3.frozen? ⟨w.heap.size, 0, none⟩ = false := by rw [← hA3]; simpa using q5
    have s6 : A3.cell? ⟨w.heap.size + 1 + 1 + 1, 0, none⟩ = some (.slice ao n cap) := by rw [← hA3, World.cell?_setCell_far _ _ _ _ (by simp)]; exact q6
    have u2 : A3.cell? ⟨A.heap.size, 2, none⟩ = some (.bool y1) := by rw [← hA3, World.cell?_setCell_far _ _ _ _ (by simp; omega)]; exact p2
    have u3 : A3.cell? ⟨A.heap.size, 3, none⟩ = some (.slice a1 l1 c1) := by rw [← hA3, World.cell?_setCell_far _ _ _ _ (by simp; omega)]; exact p3
    have u4 : A3.cell? ⟨A.heap.size, 4, none⟩ = some (.bool y2) := by rw [← hA3, World.cell?_setCell_far _ _ _ _ (by simp; omega)]; exact p4
    have u5 : A3.cell? ⟨A.heap.size, 5, none⟩ = some (.slice a2 l2' c2) := by rw [← hA3, World.cell?_setCell_far _ _ _ _ (by simp; omega)]; exact p5
    have hw13 := hw1.below hb3
    have hw23 := hw2.below hb3
    have hsm : Hid ((hi - lo).natAbs < 4294967296 ^ 6) := hzz
    gi_wp2
    refine (CallsIn.inRound l2 (callsIn_wide.2 (wminus_any A3 _ _ hi lo 5 (by omega) hw23 hw13 (ten40K hz2) (ten40K hz1)))).mono ?_
    rintro e B1 ⟨m, rfl, hm1, hb1⟩
    obtain ⟨mb, ma, ml, mc, rfl, _, _⟩ := hm1.parts
    gi_wp2
    refine (CallsIn.inRound l2 (callsIn_wide.2 (wof_any B1 7 (by omega)))).mono ?_
    rintro e B2 ⟨o, rfl, ho1, hb2⟩
    obtain ⟨ob, oa, ol, oc, rfl, _, _⟩ := ho1.parts
    gi_wp2
    refine (CallsIn.inRound l2 (callsIn_wide.2 (wcompare_any B2 _ _ (hi - lo) 7 6 (by omega) (hm1.below hb2) ho1 hsm.out (by decide)))).mono ?_
    rintro e B3 ⟨c, rfl, hc1, hc2, hc3, hc4, hb3'⟩
    have hbb : Below A3.heap.size A3 B3 := (hb1.trans (hb2.mono hb1.size)).trans (hb3'.mono (Nat.le_trans hb1.size hb2.size))
    have v2 := (hbb.cell (p := ⟨w.heap.size + 1, 0, none⟩) (block_lt_of_cell s2)).trans s2
    have v3 := (hbb.frozen (p := ⟨w.heap.size + 1, 0, none⟩) (block_lt_of_cell s2)).trans s3
    have v4 := (hbb.cell (p := ⟨w.heap.size, 0, none⟩) (block_lt_of_cell s4)).trans s4
    have v5 := (hbb.frozen (p := ⟨w.heap.size, 0, none⟩) (block_lt_of_cell s4)).trans s5
    have v6 := (hbb.cell (p := ⟨w.heap.size + 1 + 1 + 1, 0, none⟩) (block_lt_of_cell s6)).trans s6
    have hB3 : Below w.heap.size w B3 := hb3.trans (hbb.mono hb3.size)
    have hwM : Wr M A2 B3 := hw3.trans (Wr.of_below hbb)
    clear hb1 hb2 hb3' hbb hm1 ho1 s2 s3 s4 s5 s6 u2 u3 u4 u5 hw13 hw23
    by_cases hwd : 7 < hi - lo
    · have hcp : 0 < c := by
        have h1 : ¬ c < 0 := fun e => by have := hc1.1 e; omega
        have h2 : ¬ c = 0 := fun e => by have := hc2.1 e; omega
        omega
      have HE : Hid (wideS 0 rg = some k) := by rw [Hid, h8.out, HWD.out, if_pos hwd]
      clear hc1 hc2 hc3 hc4
      gi_wp2
      refine ⟨hwM.setCell (p := ⟨w.heap.size, 0, none⟩) ((h9 _).2 (.inl rfl)) _, rfl, ?_, hB3.setCell (p := ⟨w.heap.size, 0, none⟩) (Nat.le_refl _) _, HE⟩
      rw [World.cell?_setCell_same _ _ _ v4]
      congr 2
      all_goals omega
    · have hcp : ¬ 0 < c := by
        intro e
        have h1 : hi - lo < 7 ∨ hi - lo = 7 := by omega
        rcases h1 with h1 | h1
        · have := hc1.2 h1; omega
        · have := hc2.2 h1; omega
      have HE : Hid (wideS 0 rg = wideS (k + 1) (rg.drop (k + 1))) := by rw [Hid, h8.out, HWD.out, if_neg hwd]
      clear hc1 hc2 hc3 hc4
      gi_wp2
      refine ⟨hwM, M, ⟨by omega, ?_, v3, v4, v5, v6, hB3, HE, h9⟩, fun y hy => .inl hy⟩
      rw [v2]
      congr 2
      all_goals first | omega | (simp; omega)
  case stop =>
    rintro D c k A hD hk ⟨rfl, h1, h2, h3⟩ hd
    have hDs : w.heap.size < D := by simp at hD; omega
    have hkp : Keep w.heap.size A (A.putObj D (.deferred none)) := Keep.putObj (.deferred none) (by omega) hd rfl
    have k0 := hkp.cell h1
    have hB2 := hkp.below h2 (Nat.le_refl _) (Nat.le_refl _)
    clear h1 h2
    gi_wp2
    refine leave_mark hd ?_
    refine ⟨.int .i64 ((k : Int) + 3), by simp [results, Tryz.results84, go_sem, k0], ?_, hB2⟩
    rw [wideN, h3.out]
    simp
  case done =>
    rintro D M A hD ⟨hk0, h2, h3, h4, h5, h6, h7, h8, h9⟩ hd
    rw [columnVs_len] at h8
    have hDs : w.heap.size < D := by simp at hD; omega
    have HE : Hid (wideN rg = 0) := by
      rw [Hid, wideN, h8.out, List.drop_eq_nil_of_le (by omega)]
      rfl
    clear h8 h9 h2 h3 h6 HC HX HT
    have hd2 : (A.setCell ⟨w.heap.size, 0, none⟩ (.int .i64 0)).heap[D]? = some (.deferred (some [])) := (Below.heap_setCell _ _ _ _ (by simp; omega)).trans hd
    have hkp : Keep w.heap.size (A.setCell ⟨w.heap.size, 0, none⟩ (.int .i64 0)) ((A.setCell ⟨w.heap.size, 0, none⟩ (.int .i64 0)).putObj D (.deferred none)) := Keep.putObj (.deferred none) (by omega) hd2 rfl
    have k0 := hkp.cell (World.cell?_setCell_same A ⟨w.heap.size, 0, none⟩ (.int .i64 0) h4)
    have hB2 := hkp.below (h7.setCell (p := ⟨w.heap.size, 0, none⟩) (Nat.le_refl _) (.int .i64 0)) (Nat.le_refl _) (Nat.le_refl _)
    gi_wp2
    refine leave_mark hd2 ?_
    refine ⟨.int .i64 0, by simp [results, Tryz.results84, go_sem, k0], ?_, hB2⟩
    rw [HE.out]
    rfl
  · obtain ⟨i, hi, rfl⟩ := List.mem_map.1 hv
    rfl
end Go.Proofs.YtnhfdcfnojnofaaGreatDoor

/-
  What Read does (package problem).
-/
namespace Go.Proofs.YtnhfdcfnojnofaaGreatDoor
open Go.RowKit

/-- The cells of the columns, as values. -/
theorem cols_cells {w : World} {bc n : Nat} {zs : List Int} (hz : Whs w bc zs) (hl : zs.length = 3 * n) :
    ∃ x : Nat → Nat → Value, (∀ i j, i < n → j < 6 → w.cell? ⟨bc, i * 6 + j, none⟩ = some (x i j)) ∧ (∀ k t, k < n → t < 3 → ∃ b a l c, x k (2 * t) = .bool b ∧ x k (2 * t + 1) = .slice a l c) ∧
      ∀ k t, k < n → t < 3 → WholeV w (.agg #[x k (2 * t), x k (2 * t + 1)]) (zs.getD (3 * k + t) 0) := by
  have key : ∀ k t, k < n → t < 3 → ∃ b a l c, w.cell? ⟨bc, k * 6 + 2 * t, none⟩ = some (.bool b) ∧ w.cell? ⟨bc, k * 6 + (2 * t + 1), none⟩ = some (.slice a l c) ∧ WholeV w (.agg #[.bool b, .slice a l c]) (zs.getD (3 * k + t) 0) := by
    intro k t hk ht
    obtain ⟨b, a, l, c, h1, h2, h3, _, _⟩ := hz.2 (3 * k + t) (by omega)
    rw [show 2 * (3 * k + t) = k * 6 + 2 * t by omega] at h1
    rw [show 2 * (3 * k + t) + 1 = k * 6 + (2 * t + 1) by omega] at h2
    exact ⟨b, a, l, c, h1, h2, h3⟩
  refine ⟨fun i j => (w.cell? ⟨bc, i * 6 + j, none⟩).getD .nilFunc, fun i j hi hj => ?_, fun k t hk ht => ?_, fun k t hk ht => ?_⟩
  · obtain ⟨b, a, l, c, h1, h2, _⟩ := key i (j / 2) hi (by omega)
    rcases Nat.mod_two_eq_zero_or_one j with e | e
    · rw [show 2 * (j / 2) = j by omega] at h1
      simp only [h1, Option.getD_some]
    · rw [show 2 * (j / 2) + 1 = j by omega] at h2
      simp only [h2, Option.getD_some]
  · obtain ⟨b, a, l, c, h1, h2, _⟩ := key k t hk ht
    exact ⟨b, a, l, c, by simp only [h1, Option.getD_some], by simp only [h2, Option.getD_some]⟩
  · obtain ⟨b, a, l, c, h1, h2, h3⟩ := key k t hk ht
    simp only [h1, h2, Option.getD_some]
    exact h3

/-- tooWide of a problem that was read. -/
theorem tooWide_DQ (gp : Nat) (p : Prob) (vC vR : Value) (w : World) (h : DQ w gp p vC vR) (hn : p.n ≤ 4) (hrl : p.rg.length = p.n) (hbg : ∀ r ∈ p.rg, r.1.natAbs < 10 ^ 40 ∧ r.2.natAbs < 10 ^ 40) :
    Calls Tryz.prog 84 #[.pointer (some ⟨gp, 0, none⟩)] w fun e w' => e = .returned (.int .i64 (wideN p.rg : Nat)) ∧ Below w.heap.size w w' := by
  obtain ⟨d0, d1, d2, d3, d4⟩ := h.box
  rcases h.cols with ⟨h0, rfl⟩ | ⟨bc, zs, rfl, _, hz, hc⟩
  · refine tooWide_any gp p.n none 0 vR (fun _ _ => .nilFunc) 0 p.rg w (by rw [h0]; exact d0) d1 hn (fun h => by omega) hrl (fun i j hi => by omega) (fun k t hk => by omega) (fun k hk => by omega)
  · obtain ⟨x, h1, h2, h3⟩ := cols_cells hz hc.1
    refine tooWide_any gp p.n _ _ vR x bc p.rg w d0 d1 hn (fun _ => rfl) hrl h1 h2 (fun k hk => ?_)
    have a1 := h3 k 1 hk (by omega)
    have a2 := h3 k 2 hk (by omega)
    obtain ⟨e1, e2⟩ := hc.2.2 k (by omega)
    simp only [Nat.mul_one, Nat.reduceMul, Nat.reduceAdd] at a1 a2
    rw [e1] at a1
    rw [e2] at a2
    have hm : p.rg.getD k (0, 0) ∈ p.rg := by
      rw [List.getD_eq_getElem?_getD, List.getElem?_eq_getElem (by omega)]
      exact List.getElem_mem _
    exact ⟨a1, a2, (hbg _ hm).1, (hbg _ hm).2⟩

/-- The same problem in another box, newly laid. -/
theorem DQ.moved {w : World} {gp : Nat} {p : Prob} {ao ap : Option Addr} {n c m k : Nat} (h : DQ w gp p (.slice ao n c) (.slice ap m k)) : DQ (w.alloc (.cells #[.slice ao n c, .slice ap m k] 109)) w.heap.size p (.slice ao n c) (.slice ap m k) := by
  have hl := h.lt
  have h2 := h.keep (Keep.alloc 0 w (.cells #[.slice ao n c, .slice ap m k] 109))
  have t0 := World.alloc_heap_new w (.cells #[.slice ao n c, .slice ap m k] 109)
  refine ⟨⟨cell_of_row _ _ _ _ _ _ t0, cell_of_row _ _ _ _ _ _ t0, frozen_of_row _ _ _ _ _ t0, frozen_of_row _ _ _ _ _ t0, lt_of_block t0⟩, nodig_of_block t0 (fun v hv => ?_), ?_, fun g hg => ⟨(h2.nodR g hg).1, fun e => by have := hl g (Or.inr (Or.inr hg)); omega, (h2.nodR g hg).2.2⟩, ?_⟩
  · simp only [List.mem_cons, List.not_mem_nil, or_false] at hv
    intro n e
    rcases hv with rfl | rfl <;> cases e
  · rcases h2.cols with h3 | ⟨bc, zs, h3, _, h5, h6⟩
    · exact Or.inl h3
    · exact Or.inr ⟨bc, zs, h3, fun e => by have := hl bc (Or.inr (Or.inl (by rw [h3]; rfl))); omega, h5, h6⟩
  · obtain ⟨rs, a1, a2, a3⟩ := h2.rows
    obtain ⟨rs', b1, b2, b3⟩ := h.rows
    refine ⟨rs', b1, b2.alloc _, fun i r row q1 q2 => ?_⟩
    obtain ⟨c1, c2, c3, c4, c5⟩ := b3 i r row q1 q2
    have c6 := c3.lt
    exact ⟨fun e => by
      rcases e with e | e | e
      · omega
      · exact c1 (Or.inr (Or.inl e))
      · exact c1 (Or.inr (Or.inr e)), c2, c3.keep (Keep.alloc 0 w _), c4, c5.keep (Keep.alloc 0 w _)⟩

theorem readS_pos : ∀ (l : List (List UInt8 × Bool)) (i : Nat) (p : Prob) (k : Nat), readS i p l = .error k → i < k
  | [], i, p, k, h => by simp [readS] at h
  | x :: r, i, p, k, h => by
    rw [readS] at h
    split at h
    · injection h with h; omega
    · split at h
      · injection h with h; omega
      · rename_i q hq
        have := readS_pos r (i + 1) q k h
        omega

theorem wideN_pos {rg : List (Int × Int)} {k : Nat} (h : wideS 0 rg = some k) : wideN rg = k + 3 := by unfold wideN; rw [h]
theorem wideN_zero {rg : List (Int × Int)} (h : wideS 0 rg = none) : wideN rg = 0 := by unfold wideN; rw [h]

set_option maxHeartbeats 1000000 in
set_option maxRecDepth 100000 in
theorem read_long (s : List UInt8) (hs : 2000 < s.length) (w : World) :
    Calls Tryz.prog 59 #[.string ⟨s.toArray⟩] w fun e w' => e = .returned (.tuple #[.agg #[.slice none 0 0, .slice none 0 0], .int .i64 4, .int .i64 0]) ∧ Below w.heap.size w w' := by
  have hsI : (2000 : Int) < (s.length : Int) := by omega
  have t0 := World.alloc_heap_new w (.cells #[.slice none 0 0, .slice none 0 0] 109)
  have k0 := cell_of_row _ _ 0 _ _ _ t0
  have k1 := cell_of_row _ _ 1 _ _ _ t0
  go_enter Tryz.func59, Tryz.ntmps59
  go_wp2
  exact bodyPost_ret (v := .tuple #[.agg #[.slice none 0 0, .slice none 0 0], .int .i64 4, .int .i64 0]) (by simp [results, Tryz.results59, go_sem]) rfl ⟨rfl, (Below.refl _ _).alloc (Nat.le_refl _) _⟩

set_option maxHeartbeats 2000000 in
set_option maxRecDepth 100000 in
theorem read_any (s : List UInt8) (hs : s.length ≤ 2000) (w : World) :
    Calls Tryz.prog 59 #[.string ⟨s.toArray⟩] w fun e w' => Below w.heap.size w w' ∧
      ((∃ a b : Nat, parseS s = .error (a, b) ∧ 0 < a ∧ e = .returned (.tuple #[.agg #[.slice none 0 0, .slice none 0 0], .int .i64 (a : Nat), .int .i64 (b : Nat)])) ∨
       ∃ p gp vC vR, parseS s = .ok p ∧ e = .returned (.tuple #[.agg #[vC, vR], .int .i64 0, .int .i64 0]) ∧ DQ w' gp p vC vR ∧ PrOk (lines s).length p ∧ 2 + p.n ≤ (lines s).length) := by
  have hsI : ¬ (2000 : Int) < (s.length : Int) := by omega
  have HP : Hid (parseS s = match readS 0 Prob.none (lines s) with
    | .error k => .error (5, k)
    | .ok p => if (lines s).length < 2 + p.n then .error (5, (lines s).length + 1) else match wideS 0 p.rg with
      | some i => .error (6, i + 3)
      | .none => .ok p) := by
    rw [Hid]
    unfold parseS
    rw [if_neg (by omega)]
    rfl
  have HRL := hide (fun W => readLines_any s hs W)
  have HKP : Hid (∀ k, readS 0 Prob.none (lines s) = .error k → 0 < k) := fun k hk => by have := readS_pos (lines s) 0 Prob.none k hk; omega
  obtain ⟨LL, hLL⟩ : ∃ LL, lines s = LL := ⟨_, rfl⟩
  rw [hLL] at HP HRL HKP ⊢
  clear hLL
  have hb0 : Below w.heap.size w (w.alloc (.cells #[.slice none 0 0, .slice none 0 0] 109)) := (Below.refl _ _).alloc (Nat.le_refl _) _
  have t0 := World.alloc_heap_new w (.cells #[.slice none 0 0, .slice none 0 0] 109)
  have k0 := cell_of_row _ _ 0 _ _ _ t0
  have k1 := cell_of_row _ _ 1 _ _ _ t0
  have k2 := frozen_of_row _ _ 0 _ _ t0
  have k3 := frozen_of_row _ _ 1 _ _ t0
  go_enter Tryz.func59, Tryz.ntmps59
  go_wp2_with fail
  refine (HRL.out _).mono ?_
  rintro e w1 ⟨hb1, hcase⟩
  have hs1 := hb1.size
  simp only [World.size_alloc] at hs1
  have r0 := (hb1.cell (p := ⟨w.heap.size, 0, none⟩) (by simp)).trans k0
  have r1 := (hb1.cell (p := ⟨w.heap.size, 1, none⟩) (by simp)).trans k1
  have r2 := (hb1.frozen (p := ⟨w.heap.size, 0, none⟩) (by simp)).trans k2
  have r3 := (hb1.frozen (p := ⟨w.heap.size, 1, none⟩) (by simp)).trans k3
  have hbw := hb0.trans (hb1.mono (by simp))
  have z0 := (Keep.alloc 0 w1 (.cells #[.slice none 0 0, .slice none 0 0] 109)).cell r0
  have z1 := (Keep.alloc 0 w1 (.cells #[.slice none 0 0, .slice none 0 0] 109)).cell r1
  have z2 := ((Keep.alloc 0 w1 (.cells #[.slice none 0 0, .slice none 0 0] 109)).frozen r0).trans r2
  have z3 := ((Keep.alloc 0 w1 (.cells #[.slice none 0 0, .slice none 0 0] 109)).frozen r1).trans r3
  have y1 : ((w1.alloc (.cells #[.slice none 0 0, .slice none 0 0] 109)).setCell ⟨w.heap.size, 0, none⟩ (.slice none 0 0)).cell? ⟨w.heap.size, 1, none⟩ = some (.slice none 0 0) := by rw [World.cell?_setCell_other _ _ _ _ (by simp)]; exact z1
  have y2 : (((w1.alloc (.cells #[.slice none 0 0, .slice none 0 0] 109)).setCell ⟨w.heap.size, 0, none⟩ (.slice none 0 0)).setCell ⟨w.heap.size, 1, none⟩ (.slice none 0 0)).cell? ⟨w.heap.size, 1, none⟩ = some (.slice none 0 0) := World.cell?_setCell_same _ _ _ y1
  have y3 : (((w1.alloc (.cells #[.slice none 0 0, .slice none 0 0] 109)).setCell ⟨w.heap.size, 0, none⟩ (.slice none 0 0)).setCell ⟨w.heap.size, 1, none⟩ (.slice none 0 0)).cell? ⟨w.heap.size, 0, none⟩ = some (.slice none 0 0) := by
    rw [World.cell?_setCell_other _ _ _ _ (by simp)]; exact World.cell?_setCell_same _ _ _ z0
  have hbZ : Below w.heap.size w (((w1.alloc (.cells #[.slice none 0 0, .slice none 0 0] 109)).setCell ⟨w.heap.size, 0, none⟩ (.slice none 0 0)).setCell ⟨w.heap.size, 1, none⟩ (.slice none 0 0)) := ((hbw.alloc hbw.size _).setCell (p := ⟨w.heap.size, 0, none⟩) (Nat.le_refl _) _).setCell (p := ⟨w.heap.size, 1, none⟩) (Nat.le_refl _) _
  rcases hcase with ⟨k, hk, rfl⟩ | ⟨p, hp, ⟨hfew, rfl⟩ | ⟨hmany, vC, vR, rfl, hD, hPK, hOW⟩⟩
  · have hkp := HKP.out k hk
    have hkI : ¬ (k : Int) = 0 := by omega
    have HPE : Hid (parseS s = .error (5, k)) := by rw [Hid, HP.out, hk]
    clear hk
    go_wp2
    exact bodyPost_ret (v := .tuple #[.agg #[.slice none 0 0, .slice none 0 0], .int .i64 5, .int .i64 (k : Int)]) (by simp [results, Tryz.results59, go_sem, y2, y3]) rfl ⟨hbZ, Or.inl ⟨5, k, HPE.out, by omega, rfl⟩⟩
  · have hkI : ¬ ((LL.length : Int) + 1) = 0 := by omega
    have HPE : Hid (parseS s = .error (5, LL.length + 1)) := by
      rw [Hid, HP.out, hp]
      simp only [hfew, if_true]
    clear hp
    go_wp2
    exact bodyPost_ret (v := .tuple #[.agg #[.slice none 0 0, .slice none 0 0], .int .i64 5, .int .i64 ((LL.length : Int) + 1)]) (by simp [results, Tryz.results59, go_sem, y2, y3]) rfl ⟨hbZ, Or.inl ⟨5, LL.length + 1, HPE.out, by omega, by simp⟩⟩
  · obtain ⟨ao, cap, hvC⟩ : ∃ ao cap, vC = .slice ao p.n cap := by
      rcases hD.cols with ⟨h0, h2⟩ | ⟨bc, zs, h2, _⟩
      · exact ⟨none, 0, by rw [h2, h0]⟩
      · exact ⟨_, _, h2⟩
    obtain ⟨ap, kp, hvR⟩ := hD.shapeR
    subst hvC hvR
    have hL0 : 0 < LL.length := by omega
    have hn := hPK.n hL0
    have hrl : p.rg.length = p.n := by have := hPK.g; omega
    have hDM := hD.moved
    have HTW := hide (tooWide_DQ w1.heap.size p _ _ _ hDM hn.2 hrl hPK.bg)
    have HPP : Hid (parseS s = match wideS 0 p.rg with | some i => .error (6, i + 3) | .none => .ok p) := by
      rw [Hid, HP.out, hp]
      simp only [show ¬ LL.length < 2 + p.n from hmany, if_false]
    clear hp z0 z1 z2 z3 y1 y2 y3 hbZ
    go_wp2_with fail
    refine HTW.out.mono ?_
    rintro e w2 ⟨rfl, hb2⟩
    have hbx := hbw.alloc hbw.size (.cells #[.slice ao p.n cap, .slice ap p.rows.length kp] 109)
    have hb2w := hbx.trans (hb2.mono hbx.size)
    have hka := (Keep.alloc 0 w1 (.cells #[.slice ao p.n cap, .slice ap p.rows.length kp] 109)).trans (Keep.of_below (B := 0) hb2)
    have z0 := hka.cell r0
    have z1 := hka.cell r1
    have z2 := (hka.frozen r0).trans r2
    have z3 := (hka.frozen r1).trans r3
    have hD2 := hDM.below hb2
    have hbx2 := hD2.box
    obtain ⟨d0, d1, d2, d3, d4⟩ := hbx2
    have hnR : ¬ Own w1.heap.size (.slice ao p.n cap) (.slice ap p.rows.length kp) w.heap.size := by
      intro e
      rcases e with e | e | e
      · omega
      · have := hOW _ (Or.inr (Or.inl e)); simp only [World.size_alloc] at this; omega
      · have := hOW _ (Or.inr (Or.inr e)); simp only [World.size_alloc] at this; omega
    clear hka hb2 hDM hD HTW
    cases hwd : wideS 0 p.rg with
    | some i =>
      have HPE : Hid (parseS s = .error (6, i + 3)) := by rw [Hid, HPP.out, hwd]
      rw [wideN_pos hwd]
      have hkI : ¬ ((i : Int) + 3) = 0 := by omega
      have y1 : (w2.setCell ⟨w.heap.size, 0, none⟩ (.slice none 0 0)).cell? ⟨w.heap.size, 1, none⟩ = some (.slice none 0 0) := by rw [World.cell?_setCell_other _ _ _ _ (by simp)]; exact z1
      have y2 : ((w2.setCell ⟨w.heap.size, 0, none⟩ (.slice none 0 0)).setCell ⟨w.heap.size, 1, none⟩ (.slice none 0 0)).cell? ⟨w.heap.size, 1, none⟩ = some (.slice none 0 0) := World.cell?_setCell_same _ _ _ y1
      have y3 : ((w2.setCell ⟨w.heap.size, 0, none⟩ (.slice none 0 0)).setCell ⟨w.heap.size, 1, none⟩ (.slice none 0 0)).cell? ⟨w.heap.size, 0, none⟩ = some (.slice none 0 0) := by
        rw [World.cell?_setCell_other _ _ _ _ (by simp)]; exact World.cell?_setCell_same _ _ _ z0
      clear hwd HPP
      go_wp2
      exact bodyPost_ret (v := .tuple #[.agg #[.slice none 0 0, .slice none 0 0], .int .i64 6, .int .i64 ((i : Int) + 3)]) (by simp [results, Tryz.results59, go_sem, y2, y3]) rfl ⟨(hb2w.setCell (p := ⟨w.heap.size, 0, none⟩) (Nat.le_refl _) _).setCell (p := ⟨w.heap.size, 1, none⟩) (Nat.le_refl _) _, Or.inl ⟨6, i + 3, HPE.out, by omega, by simp⟩⟩
    | none =>
      have HPE : Hid (parseS s = .ok p) := by rw [Hid, HPP.out, hwd]
      rw [wideN_zero hwd]
      have y0 : (w2.setCell ⟨w.heap.size, 0, none⟩ (.slice ao p.n cap)).cell? ⟨w.heap.size, 0, none⟩ = some (.slice ao p.n cap) := World.cell?_setCell_same _ _ _ z0
      have y1 : (w2.setCell ⟨w.heap.size, 0, none⟩ (.slice ao p.n cap)).cell? ⟨w.heap.size, 1, none⟩ = some (.slice none 0 0) := by rw [World.cell?_setCell_other _ _ _ _ (by simp)]; exact z1
      have y2 : ((w2.setCell ⟨w.heap.size, 0, none⟩ (.slice ao p.n cap)).setCell ⟨w.heap.size, 1, none⟩ (.slice ap p.rows.length kp)).cell? ⟨w.heap.size, 1, none⟩ = some (.slice ap p.rows.length kp) := World.cell?_setCell_same _ _ _ y1
      have y3 : ((w2.setCell ⟨w.heap.size, 0, none⟩ (.slice ao p.n cap)).setCell ⟨w.heap.size, 1, none⟩ (.slice ap p.rows.length kp)).cell? ⟨w.heap.size, 0, none⟩ = some (.slice ao p.n cap) := by
        rw [World.cell?_setCell_other _ _ _ _ (by simp)]; exact y0
      have HDF := hide ((hD2.set_other (g := w.heap.size) (j := 0) (v := .slice ao p.n cap) hnR z0 (by simp) (by simp) z0 (by simp)).set_other (g := w.heap.size) (j := 1) (v := .slice ap p.rows.length kp) hnR y1 (by simp) (by simp) y0 (by simp))
      have HPF := hide hPK
      clear hwd HPP hD2 hPK
      go_wp2
      exact bodyPost_ret (v := .tuple #[.agg #[.slice ao p.n cap, .slice ap p.rows.length kp], .int .i64 0, .int .i64 0]) (by simp [results, Tryz.results59, go_sem, y2, y3]) rfl ⟨(hb2w.setCell (p := ⟨w.heap.size, 0, none⟩) (Nat.le_refl _) _).setCell (p := ⟨w.heap.size, 1, none⟩) (Nat.le_refl _) _, Or.inr ⟨p, w1.heap.size, _, _, HPE.out, rfl, HDF.out, HPF.out, by omega⟩⟩
end Go.Proofs.YtnhfdcfnojnofaaGreatDoor

/-
  What lines.Join does.
-/
namespace Go.Proofs.YtnhfdcfnojnofaaGreatDoor
open Go.RowKit

theorem join_tell (wd : List UInt8) (zs : List Int) : Lib.join (wd :: zs.map Lib.itoa) [32] = wd ++ tellS zs := by
  rw [Lib.join_cons]
  congr 1
  unfold Lib.joinTail tellS
  induction zs with
  | nil => rfl
  | cons z r ih =>
    simp only [List.map_cons, List.flatten_cons, List.flatMap_cons]
    rw [ih]
    rfl

set_option maxHeartbeats 1000000 in
set_option maxRecDepth 100000 in
theorem linesJoin (bk o c : Nat) (xs : List ByteArray) (w : World) (hcells : ∀ (j : Nat) x, xs[j]? = some x → w.cell? ⟨bk, o + j, none⟩ = some (.string x)) (hbk : bk < w.heap.size) (hN : xs.length ≤ 1000) (hcap : xs.length ≤ c) (hlen : (Lib.join (xs.map (fun x : ByteArray => x.data.toList)) [32]).length ≤ 1000000) :
    Calls Tryz.prog 86 #[.slice (some ⟨bk, o, none⟩) xs.length c] w fun e w' => e = .returned (.string ⟨(Lib.join (xs.map (fun x : ByteArray => x.data.toList)) [32] ++ [10]).toArray⟩) ∧ Below w.heap.size w w' := by
  have HJ := hide (Tryz.strings_Join bk o c xs ⟨#[32]⟩ w hcells hbk (by omega) hcap (by exact Nat.le_trans hlen (by omega)))
  obtain ⟨J, hJ⟩ : ∃ J, Lib.join (xs.map (fun x : ByteArray => x.data.toList)) [32] = J := ⟨_, rfl⟩
  have HJ2 : Hid (Calls Tryz.prog 154 #[.slice (some ⟨bk, o, none⟩) xs.length c, .string ⟨#[32]⟩] w fun e w' => e = .returned (.string ⟨J.toArray⟩) ∧ Below w.heap.size w w') := by
    rw [Hid, ← hJ]; exact HJ.out
  rw [hJ] at hlen ⊢
  clear HJ hJ hcells
  have e1 : (ByteArray.mk J.toArray) ++ (ByteArray.mk #[10]) = ByteArray.mk (J ++ [10]).toArray := ba_append J [10]
  have E1 := hide e1
  have hsz : (ByteArray.mk J.toArray).size ≤ 1000000 := by rw [size_mkB]; exact hlen
  clear e1
  generalize ByteArray.mk J.toArray = jb at *
  go_enter Tryz.func86, Tryz.ntmps86
  go_wp2_with fail
  refine HJ2.out.mono ?_
  rintro e w1 ⟨rfl, hb1⟩
  go_wp2
  go_ret
  exact ⟨by rw [← E1.out]; rfl, hb1⟩
end Go.Proofs.YtnhfdcfnojnofaaGreatDoor
