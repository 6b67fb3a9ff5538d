/-
  Part 25 of the texts ahead of Pks1: Dvr3, Dvi1, Whm1.
-/
import Derived.Test.YtnhfdcfnojnofaaGreatDoorPks1Z24
import Derived.Test.YtnhfdcfnojnofaaGreatDoorPks1Z17
import Derived.Test.YtnhfdcfnojnofaaGreatDoorPks1Z3
import Derived.Test.YtnhfdcfnojnofaaGreatDoorPks1Z4
import Derived.Deep.RegionHeld
set_option linter.unusedSimpArgs false
set_option linter.unusedVariables false
/-
  What readLines does (package problem): the walk.
-/
namespace Go.Proofs.YtnhfdcfnojnofaaGreatDoor
open Go.RowKit
attribute [local go_sem] Oper.semAt_some wide_depth wide_fn

theorem five_heap (w : World) (a b c d f : Obj) : (((((w.alloc a).alloc b).alloc c).alloc d).alloc f).heap[w.heap.size]? = some a ∧ (((((w.alloc a).alloc b).alloc c).alloc d).alloc f).heap[w.heap.size + 1]? = some b ∧ (((((w.alloc a).alloc b).alloc c).alloc d).alloc f).heap[w.heap.size + 1 + 1]? = some c ∧ (((((w.alloc a).alloc b).alloc c).alloc d).alloc f).heap[w.heap.size + 1 + 1 + 1]? = some d ∧ (((((w.alloc a).alloc b).alloc c).alloc d).alloc f).heap[w.heap.size + 1 + 1 + 1 + 1]? = some f := by
  obtain ⟨h1, h2, h3, h4⟩ := quad_heap w a b c d
  have hs : ((((w.alloc a).alloc b).alloc c).alloc d).heap.size = w.heap.size + 1 + 1 + 1 + 1 := by simp
  have h5 := World.alloc_heap_new ((((w.alloc a).alloc b).alloc c).alloc d) f
  rw [hs] at h5
  refine ⟨?_, ?_, ?_, ?_, h5⟩
  · rw [Below.heap_alloc _ _ _ (by omega)]; exact h1
  · rw [Below.heap_alloc _ _ _ (by omega)]; exact h2
  · rw [Below.heap_alloc _ _ _ (by omega)]; exact h3
  · rw [Below.heap_alloc _ _ _ (by omega)]; exact h4

/-- Where the reading begins. -/
theorem RdI.start (w : World) (LL : List (List UInt8 × Bool)) (s : ByteArray) :
    RdI w LL 0 Prob.none (.slice none 0 0) (.slice none 0 0) (((((w.alloc (.cells #[.slice none 0 0, .slice none 0 0] 109)).alloc (.cells #[.int .i64 0] 3)).alloc (.cells #[.slice none 0 0, .slice none 0 0] 109)).alloc (.cells #[.int .i64 1] 3)).alloc (.cells #[.string s] 9)) := by
  obtain ⟨t0, t1, t2, t3, t4⟩ := five_heap w (.cells #[.slice none 0 0, .slice none 0 0] 109) (.cells #[.int .i64 0] 3) (.cells #[.slice none 0 0, .slice none 0 0] 109) (.cells #[.int .i64 1] 3) (.cells #[.string s] 9)
  have nb : ∀ g, Value.ownBlock (.slice none 0 0) = some g → False := fun g e => by cases e
  refine ⟨⟨⟨cell_of_row _ _ _ _ _ _ t2, cell_of_row _ _ _ _ _ _ t2, frozen_of_row _ _ _ _ _ t2, frozen_of_row _ _ _ _ _ t2, lt_of_block t2⟩, nodig_of_block t2 (fun v hv => ?_), Or.inl ⟨rfl, rfl⟩, fun g e => (nb g e).elim, [], rfl, World.ownsRow_nil _ _ _ _, fun i r row a b => by simp at a⟩, PrOk.start, by simp, cell_of_row _ _ _ _ _ _ t3, frozen_of_row _ _ _ _ _ t3,
    ⟨cell_of_row _ _ _ _ _ _ t0, cell_of_row _ _ _ _ _ _ t0, frozen_of_row _ _ _ _ _ t0, frozen_of_row _ _ _ _ _ t0, lt_of_block t0⟩, cell_of_row _ _ _ _ _ _ t1, frozen_of_row _ _ _ _ _ t1, ?_, fun x hx => ?_, lt_of_block t4⟩
  · simp only [List.mem_cons, List.not_mem_nil, or_false] at hv
    intro n e
    rcases hv with rfl | rfl <;> cases e
  · exact ((below3 w _ _ _).alloc (by simp; omega) _).alloc (by simp; omega) _
  · rcases hx with e | e | e
    · exact Or.inl e
    · exact (nb x e).elim
    · exact (nb x e).elim

/-- A fault's line was told. -/
theorem rd_fail {w X : World} {k : Nat} {z0 : Int} (hb : Box2 X w.heap.size (.slice none 0 0) (.slice none 0 0)) (h1 : X.cell? ⟨w.heap.size + 1, 0, none⟩ = some (.int .i64 z0)) (hB : Below w.heap.size w X) (M : Nat → Prop) (hM : M w.heap.size ∧ M (w.heap.size + 1)) :
    Wr M X (((X.setCell ⟨w.heap.size, 0, none⟩ (.slice none 0 0)).setCell ⟨w.heap.size, 1, none⟩ (.slice none 0 0)).setCell ⟨w.heap.size + 1, 0, none⟩ (.int .i64 ((k : Int) + 1))).drew ∧
      Box2 (((X.setCell ⟨w.heap.size, 0, none⟩ (.slice none 0 0)).setCell ⟨w.heap.size, 1, none⟩ (.slice none 0 0)).setCell ⟨w.heap.size + 1, 0, none⟩ (.int .i64 ((k : Int) + 1))).drew w.heap.size (.slice none 0 0) (.slice none 0 0) ∧
      (((X.setCell ⟨w.heap.size, 0, none⟩ (.slice none 0 0)).setCell ⟨w.heap.size, 1, none⟩ (.slice none 0 0)).setCell ⟨w.heap.size + 1, 0, none⟩ (.int .i64 ((k : Int) + 1))).drew.cell? ⟨w.heap.size + 1, 0, none⟩ = some (.int .i64 ((k : Int) + 1)) ∧
      Below w.heap.size w (((X.setCell ⟨w.heap.size, 0, none⟩ (.slice none 0 0)).setCell ⟨w.heap.size, 1, none⟩ (.slice none 0 0)).setCell ⟨w.heap.size + 1, 0, none⟩ (.int .i64 ((k : Int) + 1))).drew := by
  obtain ⟨b0, b1, b2, b3, b4⟩ := hb
  have e1 : (X.setCell ⟨w.heap.size, 0, none⟩ (.slice none 0 0)).cell? ⟨w.heap.size, 1, none⟩ = some (.slice none 0 0) := by rw [World.cell?_setCell_other _ _ _ _ (by simp)]; exact b1
  have e2 : ((X.setCell ⟨w.heap.size, 0, none⟩ (.slice none 0 0)).setCell ⟨w.heap.size, 1, none⟩ (.slice none 0 0)).cell? ⟨w.heap.size + 1, 0, none⟩ = some (.int .i64 z0) := by
    rw [World.cell?_setCell_far _ _ _ _ (by simp), World.cell?_setCell_far _ _ _ _ (by simp)]; exact h1
  refine ⟨(((Wr.refl M X).setCell (p := ⟨w.heap.size, 0, none⟩) hM.1 _).setCell (p := ⟨w.heap.size, 1, none⟩) hM.1 _).setCell (p := ⟨w.heap.size + 1, 0, none⟩) hM.2 _ |>.trans (Wr.drew _ _), ⟨?_, ?_, by simpa using b2, by simpa using b3, by simpa using b4⟩, World.cell?_setCell_same _ _ _ e2, ?_⟩
  · show World.cell? (World.setCell _ _ _) _ = _
    rw [World.cell?_setCell_far _ _ _ _ (by simp), World.cell?_setCell_other _ _ _ _ (by simp)]
    exact World.cell?_setCell_same _ _ _ b0
  · show World.cell? (World.setCell _ _ _) _ = _
    rw [World.cell?_setCell_far _ _ _ _ (by simp)]
    exact World.cell?_setCell_same _ _ _ e1
  · exact below_drewD (((hB.setCell (p := ⟨w.heap.size, 0, none⟩) (Nat.le_refl _) _).setCell (p := ⟨w.heap.size, 1, none⟩) (Nat.le_refl _) _).setCell (p := ⟨w.heap.size + 1, 0, none⟩) (by simp) _)

set_option maxHeartbeats 4000000 in
set_option maxRecDepth 100000 in
theorem readLines_any (s : List UInt8) (hs : s.length ≤ 2000) (w : World) :
    Calls Tryz.prog 83 #[.string ⟨s.toArray⟩] w fun e w' => Below w.heap.size w w' ∧
      ((∃ k : Nat, readS 0 Prob.none (lines s) = .error k ∧ e = .returned (.tuple #[.agg #[.slice none 0 0, .slice none 0 0], .int .i64 (k : Nat)])) ∨
       ∃ p, readS 0 Prob.none (lines s) = .ok p ∧ (((lines s).length < 2 + p.n ∧ e = .returned (.tuple #[.agg #[.slice none 0 0, .slice none 0 0], .int .i64 (((lines s).length + 1 : Nat) : Int)])) ∨
        (¬ (lines s).length < 2 + p.n ∧ ∃ vC vR, e = .returned (.tuple #[.agg #[vC, vR], .int .i64 0]) ∧ DQ w' (w.heap.size + 1 + 1) p vC vR ∧ PrOk (lines s).length p ∧ ∀ x, Own (w.heap.size + 1 + 1) vC vR x → w.heap.size ≤ x))) := by
  have hm : Tryz.prog.follows .mixedOrders = true := by kernel_rfl
  have HSQ := hide (of_seq s (by omega) (w.heap.size + 1 + 1 + 1 + 1))
  have HLZ := hide (fun k x (h : (lines s)[k]? = some x) => Nat.le_trans (lines_sz s k x h) hs)
  have HLL : (lines s).length ≤ 2000 := Nat.le_trans (linesF_len s.length s).1 hs
  obtain ⟨LL, hLL⟩ : ∃ LL, lines s = LL := ⟨_, rfl⟩
  rw [hLL] at HSQ HLZ HLL ⊢
  clear hLL
  have HST := hide (RdI.start w LL ⟨s.toArray⟩)
  refine (callsIn_wide (n := 0)).1 ?_
  refine callsIn_of_wp_marks Tryz.func83 rfl trivial ?_ rfl
  simp only [Tryz.ntmps83, List.size_toArray, List.length_cons, List.length_nil, Nat.reduceAdd, Nat.reduceSub, Array.replicate_succ, Array.replicate_zero, List.push_toArray, List.append_toArray, List.nil_append, List.cons_append]
  gi_wp2
  refine (callsIn_wide.2 (of_mk _ _)).mono ?_
  rintro e w1 ⟨rfl, rfl⟩
  gi_wp2
  refine range_list HSQ.out rfl (enters_f Tryz.func237 (by kernel_rfl) rfl) (fun v hv => ?_)
    (fun k M A => k ≤ LL.length ∧ ∃ p vC vR, Hid (RdI w LL k p vC vR A) ∧ A.cell? ⟨w.heap.size + 1 + 1 + 1 + 1, 0, none⟩ = some (.string ⟨s.toArray⟩) ∧ ∀ x, M x ↔ (x = w.heap.size ∨ x = w.heap.size + 1 ∨ x = w.heap.size + 1 + 1 + 1) ∨ Own (w.heap.size + 1 + 1) vC vR x)
    (fun c k A => c = .ret ∧ Hid (readS 0 Prob.none LL = .error (k + 1) ∧ Box2 A w.heap.size (.slice none 0 0) (.slice none 0 0) ∧ A.cell? ⟨w.heap.size + 1, 0, none⟩ = some (.int .i64 ((k : Int) + 1)) ∧ Below w.heap.size w A))
    (fun x => (x = w.heap.size ∨ x = w.heap.size + 1 ∨ x = w.heap.size + 1 + 1 + 1) ∨ Own (w.heap.size + 1 + 1) (.slice none 0 0) (.slice none 0 0) x) ?hI ?hIx ?hC ?h0 ?round ?done ?stop
  case hI =>
    rintro k M A B' ⟨h1, p, vC, vR, h2, h3, h4⟩ hk
    exact ⟨h1, p, vC, vR, h2.out.keep hk (by simp; omega), hk.cell h3, h4⟩
  case hIx =>
    rintro c k A B' ⟨h1, h2⟩ hk
    exact ⟨h1, h2.out.1, h2.out.2.1.keep hk, hk.cell h2.out.2.2.1, hk.below h2.out.2.2.2 (by simp; omega) (Nat.le_refl _)⟩
  case hC =>
    rintro k M A ⟨h1, p, vC, vR, h2, h3, h4⟩
    refine ⟨h3, fun x hx => ?_⟩
    have hl := h2.out.2.2.2.2.2.2.2.2.2.2
    rcases (h4 x).1 hx with e | e
    · omega
    · exact h2.out.1.lt x e
  case h0 =>
    refine ⟨Nat.zero_le _, Prob.none, _, _, HST.out, ?_, fun _ => Iff.rfl⟩
    exact cell_of_row _ _ _ _ _ _ (five_heap w _ _ _ _ _).2.2.2.2
  case round =>
    rintro l2 k v M A hv ⟨hk0, p, vC, vR, HR, hbt, hM⟩
    obtain ⟨y, last, hy, rfl⟩ := lineVs_get hv
    rw [Nat.zero_add]
    have hkl : k < LL.length := (List.getElem?_eq_some_iff.1 hy).1
    have hyz := HLZ.out k y hy
    unfold RoundOK lineV
    gi_wp2
    refine ⟨Wr.of_below ((Below.refl _ _).alloc (Nat.le_refl _) _), fun A2 hk2 => ?_⟩
    have hka := (Keep.alloc _ A _).trans hk2
    have HR2 : Hid (RdI w LL k p vC vR A2) := HR.out.keep hka (by simp; omega)
    have l0 : A2.cell? ⟨A.heap.size, 0, none⟩ = some (.int .i64 ((k : Int) + 1)) := hk2.cell (cell_of_row _ _ _ _ _ _ (World.alloc_heap_new A _))
    have l1 : A2.cell? ⟨A.heap.size, 1, none⟩ = some (.string ⟨y.1.toArray⟩) := hk2.cell (cell_of_row _ _ _ _ _ _ (World.alloc_heap_new A _))
    have l2c : A2.cell? ⟨A.heap.size, 2, none⟩ = some (.bool y.2) := hk2.cell (cell_of_row _ _ _ _ _ _ (World.alloc_heap_new A _))
    have l3 : A2.cell? ⟨A.heap.size, 3, none⟩ = some (.bool last) := hk2.cell (cell_of_row _ _ _ _ _ _ (World.alloc_heap_new A _))
    have hgl : w.heap.size + 1 + 1 + 1 + 1 < A.heap.size := HR.out.2.2.2.2.2.2.2.2.2.2
    have hAA : A.heap.size < A2.heap.size := block_lt_of_cell l0
    have hbt2 := hka.cell hbt
    have hownA : ¬ Own (w.heap.size + 1 + 1) vC vR A.heap.size := fun e => by have := HR.out.1.lt _ e; omega
    have hownB : ¬ Own (w.heap.size + 1 + 1) vC vR (w.heap.size + 1 + 1 + 1 + 1) := fun e => by rcases HR.out.2.2.2.2.2.2.2.2.2.1 _ e with e | e <;> omega
    clear hk2 hka HR hbt
    cases hye : y.2 with
    | false =>
      rw [hye] at l2c
      have HE : Hid (readS 0 Prob.none LL = .error (k + 1)) := by
        rw [Hid, HR2.out.2.2.1, readS_at' hy, if_pos hye]
      obtain ⟨_, _, _, _, _, HBX, f5, f6, f7, _, _⟩ := HR2.out
      have HF := hide (rd_fail (k := k) HBX f5 f7 M ⟨(hM _).2 (.inl (.inl rfl)), (hM _).2 (.inl (.inr (.inl rfl)))⟩)
      obtain ⟨f0, f1, f2, f3, f4⟩ := HBX
      clear HR2 HLZ HST HSQ hM
      gi_wp2
      gi_region_o
      all_goals gi_wp2
      all_goals exact ⟨HF.out.1, rfl, HE.out, HF.out.2⟩
    | true =>
      rw [hye] at l2c
      have HT := hide (takeD_any k y.1 true last (w.heap.size + 1 + 1) p vC vR A2 HR2.out.1 HR2.out.2.1 hyz (by omega))
      have ec : ((k + 1 : Nat) : Int) = (k : Int) + 1 := by simp
      rw [ec] at HT
      clear ec
      gi_wp2
      refine (CallsIn.inRound l2 (callsIn_wide.2 HT.out)).mono ?_
      rintro e A3 ⟨rfl, hw3, hq3⟩
      have hwM : Wr M A2 A3 := hw3.mono (fun x e => (hM x).2 (.inr e))
      cases htk : takeS k p (words y.1) with
      | none =>
        have HE : Hid (readS 0 Prob.none LL = .error (k + 1)) := by
          rw [Hid, HR2.out.2.2.1, readS_at' hy, if_neg (by rw [hye]; simp), htk]
        obtain ⟨_, _, _, _, _, HBX, f5, f6, f7, g10, _⟩ := HR2.out
        have n0 : ¬ Own (w.heap.size + 1 + 1) vC vR w.heap.size := fun e => by rcases g10 _ e with e | e <;> omega
        have n1 : ¬ Own (w.heap.size + 1 + 1) vC vR (w.heap.size + 1) := fun e => by rcases g10 _ e with e | e <;> omega
        have HBX3 : Box2 A3 w.heap.size (.slice none 0 0) (.slice none 0 0) := HBX.same (hw3.block _ HBX.2.2.2.2 n0) hw3.size
        have f53 := hw3.cell (p := ⟨w.heap.size + 1, 0, none⟩) n1 f5
        have f63 := (hw3.frozen (p := ⟨w.heap.size + 1, 0, none⟩) n1 (block_lt_of_cell f5)).trans f6
        have hb3 : Below w.heap.size w A3 := f7.trans (hw3.below f7.size (fun x e => by rcases g10 x e with e | e <;> omega))
        have HF := hide (rd_fail (k := k) HBX3 f53 hb3 M ⟨(hM _).2 (.inl (.inl rfl)), (hM _).2 (.inl (.inr (.inl rfl)))⟩)
        obtain ⟨f0, f1, f2, f3, f4⟩ := HBX3
        have l03 : A3.cell? ⟨A.heap.size, 0, none⟩ = some (.int .i64 ((k : Int) + 1)) := hw3.cell (p := ⟨A.heap.size, 0, none⟩) hownA l0
        clear HR2 HLZ HST HSQ hM HBX hq3 htk HT l0 l1 l2c l3 f5 f6 f7 hw3
        simp only [Option.isSome]
        gi_wp2
        gi_region_o
        all_goals gi_wp2
        all_goals exact ⟨hwM.trans HF.out.1, rfl, HE.out, HF.out.2⟩
      | some q =>
        obtain ⟨vC', vR', hD3, ho3⟩ := hq3 q htk
        obtain ⟨c4, c5, HN⟩ := HR2.out.step hw3 hD3 ho3 hy hye htk
        have l03 : A3.cell? ⟨A.heap.size, 0, none⟩ = some (.int .i64 ((k : Int) + 1)) := hw3.cell (p := ⟨A.heap.size, 0, none⟩) hownA l0
        have hbt3 := hw3.cell (p := ⟨w.heap.size + 1 + 1 + 1 + 1, 0, none⟩) hownB hbt2
        have hgn : M (w.heap.size + 1 + 1 + 1) := (hM _).2 (.inl (.inr (.inr rfl)))
        simp only [Option.isSome]
        clear htk HT hq3 l0 l1 l2c l3 HLZ HST HSQ hbt2
        gi_wp2
        refine ⟨hwM.setCell (p := ⟨w.heap.size + 1 + 1 + 1, 0, none⟩) hgn _, _, ⟨by omega, q, vC', vR', HN, ?_, fun _ => Iff.rfl⟩, fun x hx => ?_⟩
        · rw [World.cell?_setCell_far _ _ _ _ (by simp)]
          exact hbt3
        · rcases hx with e | e
          · exact .inl ((hM x).2 (.inl e))
          · rcases ho3 x e with e | e
            · exact .inl ((hM x).2 (.inr e))
            · exact .inr (by omega)
  case stop =>
    rintro D c k A hD hk ⟨rfl, h⟩ hd
    have hDs : w.heap.size + 1 + 1 + 1 + 1 < D := by simp at hD; omega
    have hkp : Keep w.heap.size A (A.putObj D (.deferred none)) := Keep.putObj (.deferred none) (by omega) hd rfl
    obtain ⟨h1, h2, h3, h4⟩ := h.out
    have k0 := hkp.cell h2.1
    have k1 := hkp.cell h2.2.1
    have k2 := hkp.cell h3
    have hB2 := hkp.below h4 (Nat.le_refl _) (Nat.le_refl _)
    clear h2 h3 h4 h
    gi_wp2
    refine leave_mark hd ?_
    refine ⟨.tuple #[.agg #[.slice none 0 0, .slice none 0 0], .int .i64 ((k : Int) + 1)], by simp [results, Tryz.results83, go_sem, k0, k1, k2], hB2, Or.inl ⟨k + 1, h1, by simp⟩⟩
  case done =>
    rintro D M A hD ⟨h1, p, vC, vR, HR, hbt, hM⟩ hd
    rw [lineVs_len] at HR h1
    have hDs : w.heap.size + 1 + 1 + 1 + 1 < D := by simp at hD; omega
    obtain ⟨q1, q2, q3, q4, q5, q6, q7, q8, q9, q10, q11⟩ := HR.out
    have HRE : Hid (readS 0 Prob.none LL = .ok p) := by rw [Hid, q3, List.drop_length]; rfl
    have hn4 : p.n ≤ 4 := by
      by_cases hz : LL.length = 0
      · rw [q2.z hz]; simp [Prob.none]
      · exact (q2.n (by omega)).2
    obtain ⟨ao, cap, hvC⟩ : ∃ ao cap, vC = .slice ao p.n cap := by
      rcases q1.cols with ⟨h0, h2⟩ | ⟨bc, zs, h2, _⟩
      · exact ⟨none, 0, by rw [h2, h0]⟩
      · exact ⟨_, _, h2⟩
    obtain ⟨ap, kp, hvR⟩ := q1.shapeR
    obtain ⟨d0, d1, d2, d3, d4⟩ := q1.box
    subst hvC
    have HN := hide (fun (W : World) (hW : W.cell? ⟨w.heap.size + 1 + 1, 0, none⟩ = some (.slice ao p.n cap)) => needed_any (w.heap.size + 1 + 1) p.n ao cap W hW (by omega))
    have HFW := hide (rd_fail (k := LL.length) q6 q7 q9 (fun _ => True) ⟨trivial, trivial⟩)
    obtain ⟨r0, r1, r2, r3, r4⟩ := q6
    subst hvR
    have n0 : ¬ Own (w.heap.size + 1 + 1) (.slice ao p.n cap) (.slice ap p.rows.length kp) w.heap.size := fun e => by rcases q10 _ e with e | e <;> omega
    have n1 : ¬ Own (w.heap.size + 1 + 1) (.slice ao p.n cap) (.slice ap p.rows.length kp) (w.heap.size + 1) := fun e => by rcases q10 _ e with e | e <;> omega
    have hDl : D < A.heap.size := lt_of_block hd
    have hdF : (((A.setCell ⟨w.heap.size, 0, none⟩ (.slice none 0 0)).setCell ⟨w.heap.size, 1, none⟩ (.slice none 0 0)).setCell ⟨w.heap.size + 1, 0, none⟩ (.int .i64 ((LL.length : Int) + 1))).drew.drew.heap[D]? = some (.deferred (some [])) := by
      show (World.setCell _ _ _).heap[D]? = _
      rw [Below.heap_setCell _ _ _ _ (by simp; omega), Below.heap_setCell _ _ _ _ (by simp; omega), Below.heap_setCell _ _ _ _ (by simp; omega)]
      exact hd
    have hdO : (((A.setCell ⟨w.heap.size, 0, none⟩ (.slice ao p.n cap)).setCell ⟨w.heap.size, 1, none⟩ (.slice ap p.rows.length kp)).setCell ⟨w.heap.size + 1, 0, none⟩ (.int .i64 0)).drew.heap[D]? = some (.deferred (some [])) := by
      show (World.setCell _ _ _).heap[D]? = _
      rw [Below.heap_setCell _ _ _ _ (by simp; omega), Below.heap_setCell _ _ _ _ (by simp; omega), Below.heap_setCell _ _ _ _ (by simp; omega)]
      exact hd
    have o0 : (A.setCell ⟨w.heap.size, 0, none⟩ (.slice ao p.n cap)).cell? ⟨w.heap.size, 0, none⟩ = some (.slice ao p.n cap) := World.cell?_setCell_same _ _ _ r0
    have o1 : (A.setCell ⟨w.heap.size, 0, none⟩ (.slice ao p.n cap)).cell? ⟨w.heap.size, 1, none⟩ = some (.slice none 0 0) := by rw [World.cell?_setCell_other _ _ _ _ (by simp)]; exact r1
    have o2 : ((A.setCell ⟨w.heap.size, 0, none⟩ (.slice ao p.n cap)).setCell ⟨w.heap.size, 1, none⟩ (.slice ap p.rows.length kp)).cell? ⟨w.heap.size, 1, none⟩ = some (.slice ap p.rows.length kp) := World.cell?_setCell_same _ _ _ o1
    have o3 : ((A.setCell ⟨w.heap.size, 0, none⟩ (.slice ao p.n cap)).setCell ⟨w.heap.size, 1, none⟩ (.slice ap p.rows.length kp)).cell? ⟨w.heap.size, 0, none⟩ = some (.slice ao p.n cap) := by rw [World.cell?_setCell_other _ _ _ _ (by simp)]; exact o0
    have o4 : ((A.setCell ⟨w.heap.size, 0, none⟩ (.slice ao p.n cap)).setCell ⟨w.heap.size, 1, none⟩ (.slice ap p.rows.length kp)).cell? ⟨w.heap.size + 1, 0, none⟩ = some (.int .i64 0) := by rw [World.cell?_setCell_far _ _ _ _ (by simp), World.cell?_setCell_far _ _ _ _ (by simp)]; exact q7
    have HDO := hide ((((q1.set_other (g := w.heap.size) (j := 0) (v := .slice ao p.n cap) n0 r0 (by simp) (by simp) r0 (by simp)).set_other (g := w.heap.size) (j := 1) (v := .slice ap p.rows.length kp) n0 o1 (by simp) (by simp) o0 (by simp)).set_int (g := w.heap.size + 1) (z' := 0) n1 o4).keep (Keep.drew 0 _))
    have HC0 : (((A.setCell ⟨w.heap.size, 0, none⟩ (.slice ao p.n cap)).setCell ⟨w.heap.size, 1, none⟩ (.slice ap p.rows.length kp)).setCell ⟨w.heap.size + 1, 0, none⟩ (.int .i64 0)).drew.cell? ⟨w.heap.size, 0, none⟩ = some (.slice ao p.n cap) := by
      show World.cell? (World.setCell _ _ _) _ = _
      rw [World.cell?_setCell_far _ _ _ _ (by simp)]; exact o3
    have HC1 : (((A.setCell ⟨w.heap.size, 0, none⟩ (.slice ao p.n cap)).setCell ⟨w.heap.size, 1, none⟩ (.slice ap p.rows.length kp)).setCell ⟨w.heap.size + 1, 0, none⟩ (.int .i64 0)).drew.cell? ⟨w.heap.size, 1, none⟩ = some (.slice ap p.rows.length kp) := by
      show World.cell? (World.setCell _ _ _) _ = _
      rw [World.cell?_setCell_far _ _ _ _ (by simp)]; exact o2
    have HC2 : (((A.setCell ⟨w.heap.size, 0, none⟩ (.slice ao p.n cap)).setCell ⟨w.heap.size, 1, none⟩ (.slice ap p.rows.length kp)).setCell ⟨w.heap.size + 1, 0, none⟩ (.int .i64 0)).drew.cell? ⟨w.heap.size + 1, 0, none⟩ = some (.int .i64 0) := World.cell?_setCell_same _ _ _ o4
    have HBO : Below w.heap.size w (((A.setCell ⟨w.heap.size, 0, none⟩ (.slice ao p.n cap)).setCell ⟨w.heap.size, 1, none⟩ (.slice ap p.rows.length kp)).setCell ⟨w.heap.size + 1, 0, none⟩ (.int .i64 0)).drew := below_drewD (((q9.setCell (p := ⟨w.heap.size, 0, none⟩) (Nat.le_refl _) _).setCell (p := ⟨w.heap.size, 1, none⟩) (Nat.le_refl _) _).setCell (p := ⟨w.heap.size + 1, 0, none⟩) (by simp) _)
    have HPK := hide q2
    have HOW : Hid (∀ x, Own (w.heap.size + 1 + 1) (.slice ao p.n cap) (.slice ap p.rows.length kp) x → w.heap.size ≤ x) := fun x hx => by rcases q10 x hx with e | e <;> omega
    clear o0 o1 o2 o3 o4 hM hbt HST HSQ HLZ q3 n0 n1 q1 HR
    gi_wp2
    refine wpIn_calm2 ?_
    gi_region_with_o (refine (callsIn_wide.2 (HN.out _ (by exact d0))).mono ?_; rintro e w2 ⟨rfl, rfl⟩)
    all_goals simp only []
    all_goals by_cases hfew : LL.length < 2 + p.n
    · have hfI : (LL.length : Int) + 1 ≤ 2 + (p.n : Int) := by omega
      gi_wp2
      refine wpIn_calm2 ?_
      gi_region_o
      all_goals simp only []
      all_goals gi_wp2
      all_goals refine leave_mark hdF ?_
      all_goals have hkp := Keep.putObj (B := w.heap.size) (.deferred none) (by omega) hdF rfl
      all_goals have k0 := hkp.cell (HFW.out.2.1.1)
      all_goals have k1 := hkp.cell (HFW.out.2.1.2.1)
      all_goals have k2 := hkp.cell (HFW.out.2.2.1)
      all_goals exact ⟨.tuple #[.agg #[.slice none 0 0, .slice none 0 0], .int .i64 ((LL.length : Int) + 1)], by simp [results, Tryz.results83, go_sem, k0, k1, k2], hkp.below (below_drewD HFW.out.2.2.2) (Nat.le_refl _) (Nat.le_refl _), Or.inr ⟨p, HRE.out, Or.inl ⟨hfew, by simp⟩⟩⟩
    · have hfI : ¬ (LL.length : Int) + 1 ≤ 2 + (p.n : Int) := by omega
      gi_wp2
      refine leave_mark hdO ?_
      have hkp := Keep.putObj (B := w.heap.size) (.deferred none) (by omega) hdO rfl
      have k0 := hkp.cell HC0
      have k1 := hkp.cell HC1
      have k2 := hkp.cell HC2
      exact ⟨.tuple #[.agg #[.slice ao p.n cap, .slice ap p.rows.length kp], .int .i64 0], by simp [results, Tryz.results83, go_sem, k0, k1, k2], hkp.below HBO (Nat.le_refl _) (Nat.le_refl _), Or.inr ⟨p, HRE.out, Or.inr ⟨by omega, _, _, rfl, HDO.out.keep hkp, HPK.out, HOW.out⟩⟩⟩
    · have hfI : (LL.length : Int) + 1 ≤ 2 + (p.n : Int) := by omega
      gi_wp2
      refine wpIn_calm2 ?_
      gi_region_o
      all_goals simp only []
      all_goals gi_wp2
      all_goals refine leave_mark hdF ?_
      all_goals have hkp := Keep.putObj (B := w.heap.size) (.deferred none) (by omega) hdF rfl
      all_goals have k0 := hkp.cell (HFW.out.2.1.1)
      all_goals have k1 := hkp.cell (HFW.out.2.1.2.1)
      all_goals have k2 := hkp.cell (HFW.out.2.2.1)
      all_goals exact ⟨.tuple #[.agg #[.slice none 0 0, .slice none 0 0], .int .i64 ((LL.length : Int) + 1)], by simp [results, Tryz.results83, go_sem, k0, k1, k2], hkp.below (below_drewD HFW.out.2.2.2) (Nat.le_refl _) (Nat.le_refl _), Or.inr ⟨p, HRE.out, Or.inl ⟨hfew, by simp⟩⟩⟩
    · have hfI : ¬ (LL.length : Int) + 1 ≤ 2 + (p.n : Int) := by omega
      gi_wp2
      refine leave_mark hdO ?_
      have hkp := Keep.putObj (B := w.heap.size) (.deferred none) (by omega) hdO rfl
      have k0 := hkp.cell HC0
      have k1 := hkp.cell HC1
      have k2 := hkp.cell HC2
      exact ⟨.tuple #[.agg #[.slice ao p.n cap, .slice ap p.rows.length kp], .int .i64 0], by simp [results, Tryz.results83, go_sem, k0, k1, k2], hkp.below HBO (Nat.le_refl _) (Nat.le_refl _), Or.inr ⟨p, HRE.out, Or.inr ⟨by omega, _, _, rfl, HDO.out.keep hkp, HPK.out, HOW.out⟩⟩⟩
  · obtain ⟨i, hi⟩ := List.mem_iff_getElem?.1 hv
    obtain ⟨x, last, _, rfl⟩ := lineVs_get hi
    rfl
end Go.Proofs.YtnhfdcfnojnofaaGreatDoor

/-
  The iterators over a problem's parts are made (package problem).
-/
namespace Go.Proofs.YtnhfdcfnojnofaaGreatDoor
open Go.RowKit

set_option maxHeartbeats 400000 in
theorem each_mk_column (ao : Option Addr) (l c : Nat) (w : World) :
    Calls Tryz.prog 156 #[.slice ao l c] w fun e w' => e = .returned (.func (.func 244) #[] #[.pointer (some ⟨w.heap.size, 0, none⟩)]) ∧ w' = w.alloc (.cells #[.slice ao l c] 106) := by
  go_enter Tryz.func156, Tryz.ntmps156
  have hmf : ∀ (fn : Fn) (first cap : Array Value) (w : World), (Instr.makeFunc fn first cap).run Tryz.prog w = .ok (.func fn first cap) w := fun _ _ _ _ => rfl
  go_wp2
  go_ret
  exact ⟨rfl, rfl⟩

set_option maxHeartbeats 400000 in
theorem each_mk_row (ao : Option Addr) (l c : Nat) (w : World) :
    Calls Tryz.prog 157 #[.slice ao l c] w fun e w' => e = .returned (.func (.func 246) #[] #[.pointer (some ⟨w.heap.size, 0, none⟩)]) ∧ w' = w.alloc (.cells #[.slice ao l c] 107) := by
  go_enter Tryz.func157, Tryz.ntmps157
  have hmf : ∀ (fn : Fn) (first cap : Array Value) (w : World), (Instr.makeFunc fn first cap).run Tryz.prog w = .ok (.func fn first cap) w := fun _ _ _ _ => rfl
  go_wp2
  go_ret
  exact ⟨rfl, rfl⟩

set_option maxHeartbeats 400000 in
theorem each_mk_whole (ao : Option Addr) (l c : Nat) (w : World) :
    Calls Tryz.prog 248 #[.slice ao l c] w fun e w' => e = .returned (.func (.func 327) #[] #[.pointer (some ⟨w.heap.size, 0, none⟩)]) ∧ w' = w.alloc (.cells #[.slice ao l c] 158) := by
  go_enter Tryz.func248, Tryz.ntmps248
  have hmf : ∀ (fn : Fn) (first cap : Array Value) (w : World), (Instr.makeFunc fn first cap).run Tryz.prog w = .ok (.func fn first cap) w := fun _ _ _ _ => rfl
  go_wp2
  go_ret
  exact ⟨rfl, rfl⟩

set_option maxHeartbeats 400000 in
theorem columns_mk (ao : Option Addr) (n cap : Nat) (vR : Value) (w : World) :
    Calls Tryz.prog 89 #[.agg #[.slice ao n cap, vR]] w fun e w' => e = .returned (.func (.func 244) #[] #[.pointer (some ⟨w.heap.size + 1, 0, none⟩)]) ∧ w' = (w.alloc (.cells #[.slice ao n cap, vR] 109)).alloc (.cells #[.slice ao n cap] 106) := by
  go_enter Tryz.func89, Tryz.ntmps89
  go_wp2_with fail
  refine (each_mk_column ao n cap _).mono ?_
  rintro e w1 ⟨rfl, rfl⟩
  go_wp2
  go_ret
  exact ⟨by simp, rfl⟩

set_option maxHeartbeats 400000 in
theorem rows_mk (ao : Option Addr) (n cap : Nat) (vC : Value) (w : World) :
    Calls Tryz.prog 90 #[.agg #[vC, .slice ao n cap]] w fun e w' => e = .returned (.func (.func 246) #[] #[.pointer (some ⟨w.heap.size + 1, 0, none⟩)]) ∧ w' = (w.alloc (.cells #[vC, .slice ao n cap] 109)).alloc (.cells #[.slice ao n cap] 107) := by
  go_enter Tryz.func90, Tryz.ntmps90
  go_wp2_with fail
  refine (each_mk_row ao n cap _).mono ?_
  rintro e w1 ⟨rfl, rfl⟩
  go_wp2
  go_ret
  exact ⟨by simp, rfl⟩

set_option maxHeartbeats 400000 in
theorem factors_mk (s : ByteArray) (x : Bool) (bo : Option Addr) (bl bc : Nat) (ao : Option Addr) (n cap : Nat) (w : World) :
    Calls Tryz.prog 158 #[.agg #[.string s, .bool x, .slice bo bl bc, .slice ao n cap]] w fun e w' => e = .returned (.func (.func 327) #[] #[.pointer (some ⟨w.heap.size + 1, 0, none⟩)]) ∧ w' = (w.alloc (.cells #[.string s, .bool x, .slice bo bl bc, .slice ao n cap] 160)).alloc (.cells #[.slice ao n cap] 158) := by
  go_enter Tryz.func158, Tryz.ntmps158
  go_wp2_with fail
  refine (each_mk_whole ao n cap _).mono ?_
  rintro e w1 ⟨rfl, rfl⟩
  go_wp2
  go_ret
  exact ⟨by simp, rfl⟩
end Go.Proofs.YtnhfdcfnojnofaaGreatDoor

/-
  What whole.Minus does.
-/
namespace Go.Proofs.YtnhfdcfnojnofaaGreatDoor
open Go.RowKit

set_option maxHeartbeats 2000000 in
set_option maxRecDepth 100000 in
theorem wminus_any (w : World) (x y : Value) (z t : Int) (K : Nat) (hK : K ≤ 1073741823) (h : WholeV w x z) (k : WholeV w y t) (hz : z.natAbs < 4294967296 ^ K) (ht : t.natAbs < 4294967296 ^ K) :
    Calls Tryz.prog 150 #[x, y] w fun e w' => ∃ s, e = .returned s ∧ WholeV w' s (z - t) ∧ Below w.heap.size w w' := by
  obtain ⟨b, ao, l, cap, rfl, hv, hb⟩ := h.parts
  obtain ⟨c, bo, m, dap, rfl, hv', hb'⟩ := k.parts
  have htn : (-t).natAbs < 4294967296 ^ K := by rw [Int.natAbs_neg]; exact ht
  have hb3 := below3 w (.cells #[.bool b, .slice ao l cap] 101) (.cells #[.bool c, .slice bo m dap] 101) (.cells #[.bool false, .slice none 0 0] 101)
  have hX := h.below hb3
  have hY := k.below hb3
  have B0 : Box2 (((w.alloc (.cells #[.bool b, .slice ao l cap] 101)).alloc (.cells #[.bool c, .slice bo m dap] 101)).alloc (.cells #[.bool false, .slice none 0 0] 101)) w.heap.size (.bool b) (.slice ao l cap) := ((Box2.new _ _ _ _).alloc _).alloc _
  have B1 : Box2 (((w.alloc (.cells #[.bool b, .slice ao l cap] 101)).alloc (.cells #[.bool c, .slice bo m dap] 101)).alloc (.cells #[.bool false, .slice none 0 0] 101)) (w.heap.size + 1) (.bool c) (.slice bo m dap) := (Box2.new1 _ _ _ _ _).alloc _
  have B2 : Box2 (((w.alloc (.cells #[.bool b, .slice ao l cap] 101)).alloc (.cells #[.bool c, .slice bo m dap] 101)).alloc (.cells #[.bool false, .slice none 0 0] 101)) (w.heap.size + 1 + 1) (.bool false) (.slice none 0 0) := Box2.new2 _ _ _ _ _ _
  clear hv hb hv' hb'
  go_enter Tryz.func150, Tryz.ntmps150
  go_wp2
  go_region_held (fun w' => w'.cell? ⟨w.heap.size, 0, none⟩ = some (.bool b) ∧ w'.cell? ⟨w.heap.size, 1, none⟩ = some (.slice ao l cap) ∧ w'.cell? ⟨w.heap.size + 1, 0, none⟩ = some (.bool c) ∧ w'.cell? ⟨w.heap.size + 1, 1, none⟩ = some (.slice bo m dap)) (first | (refine ⟨?_, ?_, ?_, ?_⟩ <;> (rw [far, far] <;> first | assumption | omega)) | go_keep) (first | (go_at_call 203; refine (wplus_any _ _ _ z (-t) K hK hX2 hA1 hz htn).mono ?_; rintro e wB ⟨tB, rfl, hB1, hbB1⟩; obtain ⟨b2, a2, l2, k2, rfl, hp1, hp2⟩ := hB1.parts; have B03 := B02.below hbB1; obtain ⟨s0, s1, s2, s3, s4⟩ := B03; have B13 := B12.below hbB1; obtain ⟨t0, t1, t2, t3, t4⟩ := B13; have B23 := B22.below hbB1; have B23' := B23; obtain ⟨c0, c1, f0, f1, g0⟩ := B23'; have hbl := hbl2.trans (hbB1.mono hbl2.size)) | (go_at_call 209; refine (wturned_any _ _ t (by exact hY)).mono ?_; rintro e wA ⟨tA, rfl, hA1, hbA1⟩; have hX2 := hX.drewN 1 |>.below hbA1; have B02 := B0.drew.below hbA1; have B02' := B02; obtain ⟨o0, o1, o2, o3, o4⟩ := B02'; have B12 := B1.drew.below hbA1; have B12' := B12; obtain ⟨q0, q1, q2, q3, q4⟩ := B12'; have B22 := B2.drew.below hbA1; have hbl2 : Below w.heap.size w wA := hb3.trans (c := wA) ⟨hbA1.os, hbA1.tape, hbA1.output, by have := hbA1.size; simpa using this, fun k hk => hbA1.block k (by simp; omega)⟩))
  all_goals go_wp2
  all_goals exact bodyPost_ret (v := .agg #[.bool b2, .slice a2 l2 k2]) (by simp [results, Tryz.results150, go_sem, c0, c1]) rfl ⟨_, rfl, by rw [Int.sub_eq_add_neg]; exact hB1.stored B23, (hbl.setCell (by simp; omega) _).setCell (by simp; omega) _⟩
end Go.Proofs.YtnhfdcfnojnofaaGreatDoor
