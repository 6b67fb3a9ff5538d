/-
  Part 18 of the texts ahead of Pks1: Plc3, Its3, Dvp1.
-/
import Derived.Test.YtnhfdcfnojnofaaGreatDoorPks1Z16
import Derived.Test.YtnhfdcfnojnofaaGreatDoorPks1Z17
import Derived.Test.YtnhfdcfnojnofaaGreatDoorPks1Z9
set_option linter.unusedSimpArgs false
set_option linter.unusedVariables false
/-
  What fits does (package problem): a line read by one place for each of its words.
-/
namespace Go.Proofs.YtnhfdcfnojnofaaGreatDoor
open Go.RowKit
attribute [local go_sem] Oper.semAt_some wide_depth wide_fn

theorem Wr.keep {T : Nat → Prop} {w W W' : World} (h : Wr T w W) (hk : Keep w.heap.size W W') : Wr T w W' :=
  ⟨hk.os.trans h.os, hk.tape.trans h.tape, hk.output.trans h.output, Nat.le_trans h.size hk.size, fun k hlt ht => by
    have hb := h.block k hlt ht
    have hs : k < W.heap.size := Nat.lt_of_lt_of_le hlt h.size
    rw [← hb, Array.getElem?_eq_getElem hs]
    exact hk.block k _ (Array.getElem?_eq_getElem hs) (.inl hlt)⟩

theorem Wr.frozen {T : Nat → Prop} {w w' : World} (h : Wr T w w') {p : Addr} (hn : ¬ T p.block) (hlt : p.block < w.heap.size) : w'.frozen? p = w.frozen? p :=
  World.frozen?_of_block (w := w) (h.block p.block hlt hn)

/-- A store into a block that is newer than the first world. -/
theorem Wr.new {T : Nat → Prop} {w w' : World} (h : Wr T w w') {p : Addr} (hp : w.heap.size ≤ p.block) (v : Value) : Wr T w (w'.setCell p v) :=
  ⟨h.os, h.tape, h.output, by simpa using h.size, fun k hk ht => (Below.heap_setCell _ _ _ _ (by omega)).trans (h.block k hk ht)⟩

/-- Has a line one word for each of m places, each one that the place takes? -/
def fitsB (m : Nat) (ok : Nat → List UInt8 → Bool) (ws : List (List UInt8)) : Bool := decide (ws.length = m ∧ ∀ j, j < m → ok j (ws.getD j []) = true)

theorem words_bd {s : List UInt8} (k : Nat) (hk : k < (words s).length) : ((words s).getD k []).length ≤ s.length := by
  rw [List.getD_eq_getElem?_getD, List.getElem?_eq_getElem hk]
  exact (wordsF_len _ s).2 _ (List.getElem_mem hk)

set_option maxHeartbeats 2000000 in
set_option maxRecDepth 100000 in
theorem fits_any (s : List UInt8) (hs : s.length ≤ 2000) (pvs : List Value) (ok : Nat → List UInt8 → Bool) (T : Nat → Prop) (St : List (List UInt8) → World → Prop) (g cap : Nat) (w : World)
    (hT : ∀ x, T x → x < w.heap.size) (hg : ¬ T g) (hm9 : pvs.length ≤ 1000) (hcap : pvs.length ≤ cap) (hcap9 : cap ≤ 9223372036854775807)
    (hrow : ∀ i fv, pvs[i]? = some fv → w.cell? ⟨g, i, none⟩ = some fv)
    (hK : ∀ pre A B, St pre A → Keep w.heap.size A B → St pre B)
    (hS : ∀ pre A a y v, St pre A → A.cell? a = some y → (∀ k, y ≠ .int .u32 k) → w.heap.size ≤ a.block → St pre (A.setCell a v))
    (hstep : ∀ k fv, pvs[k]? = some fv → ∃ f q, fv = .func (.func f) #[] #[.pointer (some ⟨q, 0, none⟩)] ∧ (∀ args w, (callFunc f args).run Tryz.prog w = .ok (.enter f args) w) ∧
      ∀ pre x W, pre.length = k → x.length ≤ 2000 → Wr T w W → St pre W → Calls Tryz.prog f #[.string ⟨x.toArray⟩, .pointer (some ⟨q, 0, none⟩)] W fun e W' => e = .returned (.bool (ok k x)) ∧ Wr T W W' ∧ (ok k x = true → St (pre ++ [x]) W'))
    (h0 : St [] w) :
    Calls Tryz.prog 319 #[.string ⟨s.toArray⟩, .slice (some ⟨g, 0, none⟩) pvs.length cap] w fun e w' =>
      e = .returned (.bool (fitsB pvs.length ok (words s))) ∧ Wr T w w' ∧ (fitsB pvs.length ok (words s) = true → St (words s) w') := by
  obtain ⟨m, hm⟩ : ∃ m, pvs.length = m := ⟨_, rfl⟩
  rw [hm] at hm9 hcap ⊢
  have HS := hide hstep
  have HK := hide hK
  have HSC := hide hS
  have HR := hide hrow
  have HM := hide hm
  have HW := hide (fun k (hk : k < (words s).length) => Nat.le_trans (words_bd k hk) hs)
  have HQ := hide (words_seq s (by omega) (w.heap.size + 2))
  have hT1 := hide hT
  obtain ⟨ws, hws⟩ : ∃ ws, words s = ws := ⟨_, rfl⟩
  rw [hws] at HW HQ ⊢
  clear hstep hK hS hrow hm hT hws
  refine (callsIn_wide (n := 0)).1 ?_
  refine callsIn_of_wp_marks Tryz.func319 rfl trivial ?_ rfl
  simp only [Tryz.ntmps319, List.size_toArray, List.length_cons, List.length_nil, Nat.reduceAdd, Nat.reduceSub, Array.replicate_succ, Array.replicate_zero, List.push_toArray, List.append_toArray, List.nil_append, List.cons_append]
  gi_wp2
  refine (callsIn_wide.2 (words_mk _ _)).mono ?_
  rintro e w1 ⟨rfl, rfl⟩
  gi_wp2
  have hnT : ∀ x, w.heap.size ≤ x → ¬ T x := fun x hx ht => by have := hT1.out x ht; omega
  have NT := hide hnT
  clear hnT
  refine range_list HQ.out rfl (enters_f Tryz.func370 (by kernel_rfl) rfl) (fun v hv => ?_)
    (fun k M A => k ≤ m ∧ Hid (∀ j, j < k → ok j (ws.getD j []) = true) ∧ St (ws.take k) A ∧ Wr T w A ∧
      (∃ ao c, A.cell? ⟨w.heap.size, 0, none⟩ = some (.slice ao (m - k) c) ∧ (k < m → ao = some ⟨g, k, none⟩) ∧ m - k ≤ c ∧ c ≤ 9223372036854775807) ∧ A.frozen? ⟨w.heap.size, 0, none⟩ = false ∧
      A.cell? ⟨w.heap.size + 1, 0, none⟩ = some (.bool false) ∧ A.frozen? ⟨w.heap.size + 1, 0, none⟩ = false ∧
      A.cell? ⟨w.heap.size + 2, 0, none⟩ = some (.string ⟨s.toArray⟩) ∧ ∀ x, M x ↔ T x ∨ x = w.heap.size ∨ x = w.heap.size + 1)
    (fun c k A => c = .ret ∧ Wr T w A ∧ A.cell? ⟨w.heap.size + 1, 0, none⟩ = some (.bool false) ∧ fitsB m ok ws = false) (fun x => T x ∨ x = w.heap.size ∨ x = w.heap.size + 1) ?hI ?hIx ?hC ?h0 ?round ?done ?stop
  case hI =>
    rintro k M A B ⟨h1, h2, h3, h4, ⟨ao, c, h5, h6, h7, h8⟩, h9, h10, h11, h12, h13⟩ hk
    have hkw := hk.mono (B' := w.heap.size) (by simp; omega)
    exact ⟨h1, h2, HK.out _ _ _ h3 hkw, h4.keep hkw, ⟨ao, c, hk.cell h5, h6, h7, h8⟩, (hk.frozen h5).trans h9, hk.cell h10, (hk.frozen h10).trans h11, hk.cell h12, h13⟩
  case hIx =>
    rintro c k A B ⟨h1, h2, h3, h4⟩ hk
    exact ⟨h1, h2.keep (hk.mono (B' := w.heap.size) (by simp; omega)), hk.cell h3, h4⟩
  case hC =>
    rintro k M A ⟨h1, h2, h3, h4, ⟨ao, c, h5, h6, h7, h8⟩, h9, h10, h11, h12, h13⟩
    refine ⟨h12, fun x hx => ?_⟩
    rcases (h13 x).1 hx with h | h | h
    · exact Nat.lt_of_lt_of_le (hT1.out x h) h4.size
    · rw [h]; exact block_lt_of_cell h5
    · rw [h]; exact block_lt_of_cell h10
  case h0 =>
    refine ⟨Nat.zero_le _, fun j hj => by omega, HK.out _ _ _ h0 (((Keep.alloc _ _ _).trans (Keep.alloc _ _ _)).trans (Keep.alloc _ _ _)), ?_, ⟨some ⟨g, 0, none⟩, cap, ?_, fun _ => rfl, by omega, hcap9⟩, ?_, ?_, ?_, ?_, fun _ => Iff.rfl⟩
    · exact Wr.of_below ((((Below.refl _ w).alloc (Nat.le_refl _) _).alloc (by simp) _).alloc (by simp; omega) _)
    · exact (((Boxed.new w _ _).alloc _).alloc _).cell
    · exact (((Boxed.new w _ _).alloc _).alloc _).frozen
    · have := ((Boxed.new (w.alloc (.cells #[.slice (some ⟨g, 0, none⟩) m cap] 433)) 4 (.bool false)).alloc (.cells #[.string ⟨s.toArray⟩] 9)).cell
      rwa [World.size_alloc] at this
    · have := ((Boxed.new (w.alloc (.cells #[.slice (some ⟨g, 0, none⟩) m cap] 433)) 4 (.bool false)).alloc (.cells #[.string ⟨s.toArray⟩] 9)).frozen
      rwa [World.size_alloc] at this
    · have := (Boxed.new ((w.alloc (.cells #[.slice (some ⟨g, 0, none⟩) m cap] 433)).alloc (.cells #[.bool false] 4)) 9 (.string ⟨s.toArray⟩)).cell
      rwa [World.size_alloc, World.size_alloc] at this
  case round =>
    rintro l k v M A hv ⟨h1, h2, h3, h4, ⟨ao, c, h5, h6, h7, h8⟩, h9, h10, h11, h12, h13⟩
    obtain ⟨hkw, hvx⟩ : ∃ hk : k < ws.length, v = wordV (ws.getD k []) := by
      rw [List.getElem?_map] at hv
      cases hx : ws[k]? with
      | none => rw [hx] at hv; cases hv
      | some x =>
        rw [hx] at hv
        injection hv with hv
        exact ⟨(List.getElem?_eq_some_iff.1 hx).1, by rw [← hv, List.getD_eq_getElem?_getD, hx]; rfl⟩
    obtain ⟨x, hx⟩ : ∃ x, ws.getD k [] = x := ⟨_, rfl⟩
    have hx2 : x.length ≤ 2000 := hx ▸ HW.out k hkw
    rw [hx] at hvx
    subst hvx
    have HX := hide hx
    clear hx hv
    unfold RoundOK wordV
    gi_wp2
    refine ⟨Wr.refl _ _, fun A2 hk2 => ?_⟩
    have hk3 := hk2.mono (B' := w.heap.size) (by simp; omega)
    replace h3 := HK.out _ _ _ h3 hk3
    replace h4 := h4.keep hk3
    replace h9 := (hk2.frozen h5).trans h9
    replace h5 := hk2.cell h5
    replace h11 := (hk2.frozen h10).trans h11
    replace h10 := hk2.cell h10
    replace h12 := hk2.cell h12
    by_cases hkm : k < m
    · obtain rfl := h6 hkm
      obtain ⟨d, hd⟩ : ∃ d, m - k = d + 1 := ⟨m - k - 1, by omega⟩
      rw [hd] at h5 h7
      obtain ⟨fv, hfv⟩ : ∃ fv, pvs[k]? = some fv := ⟨_, List.getElem?_eq_getElem (by rw [HM.out]; exact hkm)⟩
      obtain ⟨f, q, rfl, hE, hcall⟩ := HS.out k fv hfv
      have hcg := h4.cell (p := ⟨g, k, none⟩) hg (HR.out k _ hfv)
      have HC := hide (hcall (ws.take k) x A2 (by rw [List.length_take]; omega) hx2 h4 h3)
      clear hcall
      gi_wp2
      refine (CallsIn.inRound l (callsIn_wide.2 HC.out)).mono ?_
      rintro e A3 ⟨rfl, hw3, hs3⟩
      have p5 := hw3.cell (p := ⟨w.heap.size, 0, none⟩) (NT.out _ (Nat.le_refl _)) h5
      have p9 := (hw3.frozen (p := ⟨w.heap.size, 0, none⟩) (NT.out _ (Nat.le_refl _)) (block_lt_of_cell h5)).trans h9
      have p10 := hw3.cell (p := ⟨w.heap.size + 1, 0, none⟩) (NT.out _ (by simp)) h10
      have p11 := (hw3.frozen (p := ⟨w.heap.size + 1, 0, none⟩) (NT.out _ (by simp)) (block_lt_of_cell h10)).trans h11
      have p12 := hw3.cell (p := ⟨w.heap.size + 2, 0, none⟩) (NT.out _ (by simp)) h12
      have h43 := h4.trans hw3
      by_cases hok : ok k x = true
      · have HS3 := hide (hs3 hok)
        clear hs3
        have H2 : Hid (∀ j, j < k + 1 → ok j (ws[j]?.getD []) = true) := by
          intro j hj
          rw [← List.getD_eq_getElem?_getD]
          by_cases hjk : j < k
          · exact h2.out j hjk
          · obtain rfl : j = k := by omega
            rw [HX.out]; exact hok
        have htk : ws.take (k + 1) = ws.take k ++ [x] := by
          rw [List.take_add_one, ← HX.out, List.getD_eq_getElem?_getD, List.getElem?_eq_getElem hkw]
          rfl
        have HTK := hide htk
        clear htk
        have hfin : ∀ (ao' : Option Addr) (c' : Nat), (0 < d → ao' = some ⟨g, k + 1, none⟩) → d ≤ c' → c' ≤ 9223372036854775807 →
            Wr M A2 (A3.setCell ⟨w.heap.size, 0, none⟩ (.slice ao' d c')) ∧ St (ws.take (k + 1)) (A3.setCell ⟨w.heap.size, 0, none⟩ (.slice ao' d c')) ∧ Wr T w (A3.setCell ⟨w.heap.size, 0, none⟩ (.slice ao' d c')) ∧
            (A3.setCell ⟨w.heap.size, 0, none⟩ (.slice ao' d c')).cell? ⟨w.heap.size, 0, none⟩ = some (.slice ao' (m - (k + 1)) c') ∧
            (A3.setCell ⟨w.heap.size, 0, none⟩ (.slice ao' d c')).frozen? ⟨w.heap.size, 0, none⟩ = false ∧
            (A3.setCell ⟨w.heap.size, 0, none⟩ (.slice ao' d c')).cell? ⟨w.heap.size + 1, 0, none⟩ = some (.bool false) ∧
            (A3.setCell ⟨w.heap.size, 0, none⟩ (.slice ao' d c')).frozen? ⟨w.heap.size + 1, 0, none⟩ = false ∧
            (A3.setCell ⟨w.heap.size, 0, none⟩ (.slice ao' d c')).cell? ⟨w.heap.size + 2, 0, none⟩ = some (.string ⟨s.toArray⟩) := by
          intro ao' c' h1' h2' h3'
          refine ⟨(hw3.mono fun y hy => (h13 y).2 (.inl hy)).setCell (p := ⟨w.heap.size, 0, none⟩) ((h13 _).2 (.inr (.inl rfl))) _, ?_, h43.new (p := ⟨w.heap.size, 0, none⟩) (Nat.le_refl _) _, ?_, by simpa using p9, ?_, by simpa using p11, ?_⟩
          · rw [HTK.out]
            exact HSC.out _ _ ⟨w.heap.size, 0, none⟩ _ _ HS3.out p5 (by simp) (Nat.le_refl _)
          · rw [World.cell?_setCell_same _ _ _ p5]
            rw [show m - (k + 1) = d by omega]
          · rw [far (by omega)]; exact p10
          · rw [far (by omega)]; exact p12
        have HF := hide hfin
        clear hfin
        gi_wp2
        · obtain rfl : d = 0 := by omega
          obtain ⟨f1, f2, f3, f4, f5, f6, f7, f8⟩ := HF.out (some ⟨g, k, none⟩) 0 (by omega) (by omega) (by omega)
          exact ⟨f1, M, ⟨by omega, H2, f2, f3, ⟨_, _, f4, by omega, by omega, by omega⟩, f5, f6, f7, f8, h13⟩, fun y hy => .inl hy⟩
        · obtain ⟨f1, f2, f3, f4, f5, f6, f7, f8⟩ := HF.out (some ⟨g, k + 1, none⟩) (c - 1) (fun _ => rfl) (by omega) (by omega)
          exact ⟨f1, M, ⟨by omega, H2, f2, f3, ⟨_, _, f4, fun _ => rfl, by omega, by omega⟩, f5, f6, f7, f8, h13⟩, fun y hy => .inl hy⟩
      · have hok' : ok k x = false := by simpa using hok
        clear hs3
        gi_wp2
        refine ⟨?_, rfl, ?_, ?_, ?_⟩
        · exact (hw3.mono fun y hy => (h13 y).2 (.inl hy)).setCell (p := ⟨w.heap.size + 1, 0, none⟩) ((h13 _).2 (.inr (.inr rfl))) _
        · exact h43.new (p := ⟨w.heap.size + 1, 0, none⟩) (by simp) _
        · exact World.cell?_setCell_same _ _ _ p10
        · refine decide_eq_false fun hh => ?_
          have := hh.2 k hkm
          rw [HX.out, hok'] at this
          cases this
    · obtain rfl : k = m := by omega
      rw [Nat.sub_self] at h5
      gi_wp2
      refine ⟨?_, rfl, ?_, ?_, ?_⟩
      · exact (Wr.refl _ _).setCell (p := ⟨w.heap.size + 1, 0, none⟩) ((h13 _).2 (.inr (.inr rfl))) _
      · exact h4.new (p := ⟨w.heap.size + 1, 0, none⟩) (by simp) _
      · exact World.cell?_setCell_same _ _ _ h10
      · exact decide_eq_false fun hh => by omega
  case done =>
    rintro D M A hD ⟨h1, h2, h3, h4, ⟨ao, c, h5, h6, h7, h8⟩, h9, h10, h11, h12, h13⟩ hd
    rw [List.length_map] at h1 h2 h3 h5 h6 h7
    have hfb : fitsB m ok ws = (((m - ws.length : Nat) : Int) == 0) := by
      rw [Bool.eq_iff_iff, fitsB, decide_eq_true_eq, beq_iff_eq]
      constructor
      · intro h; omega
      · intro h
        have he : ws.length = m := by omega
        exact ⟨he, fun j hj => h2.out j (by omega)⟩
    have HFB := hide hfb
    clear hfb
    gi_wp2
    have hd' : (A.setCell ⟨w.heap.size + 1, 0, none⟩ (.bool (((m - ws.length : Nat) : Int) == 0))).heap[D]? = some (.deferred (some [])) := (Below.heap_setCell _ _ _ _ (by simp at hD; simp; omega)).trans hd
    have hkp : Keep w.heap.size (A.setCell ⟨w.heap.size + 1, 0, none⟩ (.bool (((m - ws.length : Nat) : Int) == 0))) _ := Keep.putObj (.deferred none) (by simp at hD; omega) hd' rfl
    have hcr := hkp.cell (World.cell?_setCell_same A ⟨w.heap.size + 1, 0, none⟩ (.bool (((m - ws.length : Nat) : Int) == 0)) h10)
    refine leave_mark hd' ?_
    refine ⟨.bool (((m - ws.length : Nat) : Int) == 0), by simp [results, Tryz.results319, go_sem, hcr], by rw [HFB.out], (h4.new (p := ⟨w.heap.size + 1, 0, none⟩) (by simp) _).keep hkp, fun hf => ?_⟩
    rw [HFB.out] at hf
    have he : ws.length = m := by simp at hf; omega
    have h3' : St ws A := by rw [List.take_of_length_le (Nat.le_refl _)] at h3; exact h3
    exact HK.out _ _ _ (HSC.out _ _ ⟨w.heap.size + 1, 0, none⟩ _ _ h3' h10 (by simp) (by simp)) hkp
  case stop =>
    rintro D c k A hD hk ⟨rfl, h1, h2, h3⟩ hd
    gi_wp2
    have hkp : Keep w.heap.size A _ := Keep.putObj (.deferred none) (by simp at hD; omega) hd rfl
    have hcr := hkp.cell h2
    refine leave_mark hd ?_
    exact ⟨.bool false, by simp [results, Tryz.results319, go_sem, hcr], by rw [h3], h1.keep hkp, fun hf => by rw [h3] at hf; cases hf⟩
  · obtain ⟨i, hi, rfl⟩ := List.mem_map.1 hv
    rfl
end Go.Proofs.YtnhfdcfnojnofaaGreatDoor

/-
  Whole numbers in a row of cells, two each; what a place on a line does to one of them.
-/
namespace Go.Proofs.YtnhfdcfnojnofaaGreatDoor
open Go.RowKit

/-- Block b holds the whole numbers zs, two cells each, from its start on. -/
def Whs (w : World) (b : Nat) (zs : List Int) : Prop := NoDig w b ∧ ∀ j, j < zs.length → WholeAt w b (2 * j) (zs.getD j 0)

theorem Whs.lt {w : World} {b : Nat} {zs : List Int} (h : Whs w b zs) : b < w.heap.size := by
  obtain ⟨o, ho, _⟩ := h.1.1
  exact (Array.getElem?_eq_some_iff.1 ho).1

theorem Whs.keep {B : Nat} {w w' : World} {b : Nat} {zs : List Int} (h : Whs w b zs) (hk : Keep B w w') : Whs w' b zs :=
  ⟨h.1.keep hk, fun j hj => (h.2 j hj).keep hk⟩

theorem Whs.below {w w' : World} {b : Nat} {zs : List Int} (h : Whs w b zs) (hb : Below w.heap.size w w') : Whs w' b zs := h.keep (B := 0) (Keep.of_below hb)

theorem WholeAt.setCell {w : World} {b o : Nat} {z : Int} (h : WholeAt w b o z) {a : Addr} {y : Value} (hy : w.cell? a = some y) (hn : ∀ k, y ≠ .int .u32 k) (hb : a.block ≠ b) (v : Value) : WholeAt (w.setCell a v) b o z := by
  obtain ⟨x, ao, l, c, h1, h2, h3, h4, h5⟩ := h
  exact ⟨x, ao, l, c, (World.cell?_setCell_far _ _ _ _ hb).trans h1, (World.cell?_setCell_far _ _ _ _ hb).trans h2, h3.setCell hy hn v, by simpa using h4, by simpa using h5⟩

theorem NoDig.far {w : World} {b : Nat} (h : NoDig w b) {a : Addr} (hb : a.block ≠ b) (v : Value) : NoDig (w.setCell a v) b :=
  h.same (Below.heap_setCell _ _ _ _ (fun e => hb e.symm))

theorem Whs.setCell {w : World} {b : Nat} {zs : List Int} (h : Whs w b zs) {a : Addr} {y : Value} (hy : w.cell? a = some y) (hn : ∀ k, y ≠ .int .u32 k) (hb : a.block ≠ b) (v : Value) : Whs (w.setCell a v) b zs :=
  ⟨h.1.far hb v, fun j hj => (h.2 j hj).setCell hy hn hb v⟩

theorem WholeAt.wr {T : Nat → Prop} {w w' : World} {b o : Nat} {z : Int} (h : WholeAt w b o z) (hw : Wr T w w') (hb : ¬ T b) (ht : ∀ k, T k → NoDig w k) : WholeAt w' b o z := by
  have hlt := h.lt
  obtain ⟨x, ao, l, c, h1, h2, h3, h4, h5⟩ := h
  exact ⟨x, ao, l, c, hw.cell hb h1, hw.cell hb h2, h3.wr hw ht, (hw.frozen (p := ⟨b, o, none⟩) hb hlt).trans h4, (hw.frozen (p := ⟨b, o + 1, none⟩) hb hlt).trans h5⟩

theorem Whs.wr {T : Nat → Prop} {w w' : World} {b : Nat} {zs : List Int} (h : Whs w b zs) (hw : Wr T w w') (hb : ¬ T b) (ht : ∀ k, T k → NoDig w k) : Whs w' b zs :=
  ⟨h.1.wr hw hb, fun j hj => (h.2 j hj).wr hw hb ht⟩

/-- One of them is written anew. -/
theorem Whs.put {w : World} {b j : Nat} {zs : List Int} {z : Int} {x : Bool} {ao : Option Addr} {l c : Nat} (h : Whs w b zs) (hj : j < zs.length) (hv : WholeV w (.agg #[.bool x, .slice ao l c]) z) :
    Whs ((w.setCell ⟨b, 2 * j, none⟩ (.bool x)).setCell ⟨b, 2 * j + 1, none⟩ (.slice ao l c)) b (zs.set j z) := by
  obtain ⟨x0, a0, l0, c0, k0, k1, _⟩ := h.2 j hj
  refine ⟨?_, fun i hi => ?_⟩
  · have e1 : (w.setCell ⟨b, 2 * j, none⟩ (.bool x)).cell? ⟨b, 2 * j + 1, none⟩ = some (.slice a0 l0 c0) := by
      rw [World.cell?_setCell_other _ _ _ _ (by intro e; injection e with _ e2; omega)]; exact k1
    exact (h.1.setCell k0 (by simp)).setCell e1 (by simp)
  · rw [List.length_set] at hi
    by_cases hij : i = j
    · subst hij
      have e : (zs.set i z).getD i 0 = z := by simp [List.getD_eq_getElem?_getD, hi]
      rw [e]
      exact (h.2 i hi).put h.1 hv
    · have e : (zs.set j z).getD i 0 = zs.getD i 0 := by simp [List.getD_eq_getElem?_getD, List.getElem?_set_ne (Ne.symm hij)]
      rw [e]
      exact (h.2 i hi).other h.1 (by omega)

/-- The place of one of them reads a word. -/
theorem whole_place (x : List UInt8) (q b j o : Nat) (zs : List Int) (w : World) (h : w.cell? ⟨q, 0, none⟩ = some (.pointer (some ⟨b, o, none⟩))) (ho : o = 2 * j) (hz : Whs w b zs) (hj : j < zs.length) (hq : q ≠ b) (hx : x.length ≤ 2000) :
    Calls Tryz.prog 366 #[.string ⟨x.toArray⟩, .pointer (some ⟨q, 0, none⟩)] w fun e w' => e = .returned (.bool (dOk x)) ∧ Wr (fun k => k = b) w w' ∧ (dOk x = true → Whs w' b (zs.set j (T.wZ x))) := by
  subst ho
  refine (wholeInto_call x q b (2 * j) _ w h (hz.2 j hj) hq (by omega)).mono ?_
  rintro e w' ⟨rfl, w1, y, ao, l, c, hb, rfl, hv⟩
  refine ⟨rfl, ((Wr.of_below (T := fun k => k = b) hb).setCell (p := ⟨b, 2 * j, none⟩) rfl _).setCell (p := ⟨b, 2 * j + 1, none⟩) rfl _, fun hd => ?_⟩
  exact (hz.below hb).put hj (hv hd)

/-- What places write, one behind another: the k-th at pos k. -/
def putS (pos : Nat → Nat) : Nat → List Int → List (List UInt8) → List Int
  | _, zs, [] => zs
  | k, zs, x :: r => putS pos (k + 1) (zs.set (pos k) (T.wZ x)) r

theorem putS_snoc (pos : Nat → Nat) (x : List UInt8) : ∀ (r : List (List UInt8)) (k : Nat) (zs : List Int), putS pos k zs (r ++ [x]) = (putS pos k zs r).set (pos (k + r.length)) (T.wZ x)
  | [], k, zs => by simp [putS]
  | y :: r, k, zs => by
    rw [List.cons_append, putS, putS_snoc pos x r, putS, List.length_cons, show k + 1 + r.length = k + (r.length + 1) by omega]

theorem putS_len (pos : Nat → Nat) : ∀ (r : List (List UInt8)) (k : Nat) (zs : List Int), (putS pos k zs r).length = zs.length
  | [], _, _ => rfl
  | _ :: r, k, zs => by rw [putS, putS_len pos r, List.length_set]
end Go.Proofs.YtnhfdcfnojnofaaGreatDoor

/-
  A problem of the program's own (package problem) as it lies in memory while it is read.
-/
namespace Go.Proofs.YtnhfdcfnojnofaaGreatDoor
open Go.RowKit

/-- Three whole numbers for each variable: the coefficient, the least, the greatest. -/
def ColsOk (p : Prob) (zs : List Int) : Prop :=
  zs.length = 3 * p.n ∧ (∀ k, k < p.mx.length → zs.getD (3 * k) 0 = p.mx.getD k 0) ∧ ∀ k, k < p.rg.length → zs.getD (3 * k + 1) 0 = (p.rg.getD k (0, 0)).1 ∧ zs.getD (3 * k + 2) 0 = (p.rg.getD k (0, 0)).2

/-- A condition as a value. -/
structure RowV where
  s : ByteArray
  x : Bool
  b : Option Addr × Nat × Nat
  f : Nat
  n : Nat

def RowV.cells (r : RowV) : List Value := [.string r.s, .bool r.x, .slice r.b.1 r.b.2.1 r.b.2.2, .slice (some ⟨r.f, 0, none⟩) r.n r.n]
def rowCells (rs : List RowV) : List Value := rs.flatMap RowV.cells

/-- What a condition in memory says; T: blocks that are none of its factors' own. -/
def RowIs (w : World) (T : Nat → Prop) (r : RowV) (row : List Int × List UInt8 × Int) : Prop :=
  ¬ T r.f ∧ r.n = row.1.length ∧ Whs w r.f row.1 ∧ r.s = ⟨row.2.1.toArray⟩ ∧ WholeV w (.agg #[.bool r.x, .slice r.b.1 r.b.2.1 r.b.2.2]) row.2.2

/-- The blocks that are the problem's own. -/
def Own (gp : Nat) (vC vR : Value) (k : Nat) : Prop := k = gp ∨ vC.ownBlock = some k ∨ vR.ownBlock = some k

theorem RowIs.keep {B : Nat} {w w' : World} {T : Nat → Prop} {r : RowV} {row : List Int × List UInt8 × Int} (h : RowIs w T r row) (hk : Keep B w w') : RowIs w' T r row :=
  ⟨h.1, h.2.1, h.2.2.1.keep hk, h.2.2.2.1, h.2.2.2.2.keep hk⟩

theorem RowIs.wr {w w' : World} {T U : Nat → Prop} {r : RowV} {row : List Int × List UInt8 × Int} (h : RowIs w T r row) (hw : Wr U w w') (hu : ∀ k, U k → T k) (hn : ∀ k, U k → NoDig w k) : RowIs w' T r row :=
  ⟨h.1, h.2.1, h.2.2.1.wr hw (fun e => h.1 (hu _ e)) hn, h.2.2.2.1, h.2.2.2.2.wr hw hn⟩

/-- The problem that lies at block gp, as far as it is read. -/
structure DQ (w : World) (gp : Nat) (p : Prob) (vC vR : Value) : Prop where
  box : Box2 w gp vC vR
  nodP : NoDig w gp
  cols : (p.n = 0 ∧ vC = .slice none 0 0) ∨ ∃ bc zs, vC = .slice (some ⟨bc, 0, none⟩) p.n p.n ∧ bc ≠ gp ∧ Whs w bc zs ∧ ColsOk p zs
  nodR : ∀ g, vR.ownBlock = some g → NoDig w g ∧ g ≠ gp ∧ vC.ownBlock ≠ some g
  rows : ∃ rs : List RowV, rs.length = p.rows.length ∧ w.ownsRow 0 160 4 vR rs.length (rowCells rs) ∧ ∀ (i : Nat) (r : RowV) (row : List Int × List UInt8 × Int), rs[i]? = some r → p.rows[i]? = some row → RowIs w (Own gp vC vR) r row

theorem Box2.same {w w' : World} {g : Nat} {x y : Value} (h : Box2 w g x y) (he : w'.heap[g]? = w.heap[g]?) (hs : w.heap.size ≤ w'.heap.size) : Box2 w' g x y := by
  obtain ⟨h0, h1, h2, h3, h4⟩ := h
  exact ⟨(World.cell?_of_block (w := w) (a := ⟨g, 0, none⟩) he).trans h0, (World.cell?_of_block (w := w) (a := ⟨g, 1, none⟩) he).trans h1, (World.frozen?_of_block (w := w) (a := ⟨g, 0, none⟩) he).trans h2, (World.frozen?_of_block (w := w) (a := ⟨g, 1, none⟩) he).trans h3, Nat.lt_of_lt_of_le h4 hs⟩

theorem Keep.cells {B : Nat} {w w' : World} (hk : Keep B w w') {g : Nat} {o : Obj} (ho : w.heap[g]? = some o) (hc : o.isCells = true) : w'.heap[g]? = w.heap[g]? := (hk.block g o ho (.inr hc)).trans ho.symm

theorem Box2.keep {B : Nat} {w w' : World} {g : Nat} {x y : Value} (h : Box2 w g x y) (hk : Keep B w w') : Box2 w' g x y := by
  obtain ⟨o, ho, hc⟩ := cells_of_cell h.1
  exact h.same (hk.cells ho hc) hk.size

theorem owns_eq {w w' : World} {B e size n : Nat} {v : Value} {xs : List Value} (h : w.ownsRow B e size v n xs) (hr : ∀ g, v.ownBlock = some g → w'.heap[g]? = w.heap[g]?) : w'.ownsRow B e size v n xs := by
  obtain ⟨h0, h1 | ⟨g, cap, cur, hv, hb, hh, hn, h4, h5, h6⟩⟩ := h
  · exact ⟨h0, Or.inl h1⟩
  · exact ⟨h0, Or.inr ⟨g, cap, cur, hv, hb, (hr g (by rw [hv]; rfl)).trans hh, hn, h4, h5, h6⟩⟩

theorem owns_keep {B' : Nat} {w w' : World} {B e size n : Nat} {v : Value} {xs : List Value} (h : w.ownsRow B e size v n xs) (hk : Keep B' w w') : w'.ownsRow B e size v n xs := by
  refine owns_eq h fun g hg => ?_
  obtain ⟨h0, h1 | ⟨g', cap, cur, hv, hb, hh, hn, h4, h5, h6⟩⟩ := h
  · rw [h1.1] at hg; cases hg
  · rw [hv] at hg
    simp [Value.ownBlock] at hg
    subst hg
    exact hk.cells hh rfl

theorem DQ.keep {B : Nat} {w w' : World} {gp : Nat} {p : Prob} {vC vR : Value} (h : DQ w gp p vC vR) (hk : Keep B w w') : DQ w' gp p vC vR := by
  refine ⟨h.box.keep hk, h.nodP.keep hk, ?_, fun g hg => ⟨(h.nodR g hg).1.keep hk, (h.nodR g hg).2⟩, ?_⟩
  · rcases h.cols with h1 | ⟨bc, zs, h1, h2, h3, h4⟩
    · exact Or.inl h1
    · exact Or.inr ⟨bc, zs, h1, h2, h3.keep hk, h4⟩
  · obtain ⟨rs, h1, h2, h3⟩ := h.rows
    exact ⟨rs, h1, owns_keep h2 hk, fun i r row a b => (h3 i r row a b).keep hk⟩

theorem DQ.below {w w' : World} {gp : Nat} {p : Prob} {vC vR : Value} (h : DQ w gp p vC vR) (hb : Below w.heap.size w w') : DQ w' gp p vC vR := h.keep (B := 0) (Keep.of_below hb)

/-- The columns' numbers were written anew. -/
theorem DQ.cols_anew {w w' : World} {gp bc : Nat} {p q : Prob} {vC vR : Value} {zs : List Int} (h : DQ w gp p vC vR) (hv : vC = .slice (some ⟨bc, 0, none⟩) p.n p.n) (hn : 0 < p.n) (hw : Wr (fun k => k = bc) w w') (hz : Whs w' bc zs) (hq : ColsOk q zs) (hqn : q.n = p.n) (hqr : q.rows = p.rows) : DQ w' gp q vC vR := by
  obtain ⟨hbg, hd⟩ : bc ≠ gp ∧ NoDig w bc := by
    rcases h.cols with ⟨h0, _⟩ | ⟨b2, z2, h1, h2, h3, _⟩
    · omega
    · rw [hv] at h1
      simp at h1
      subst h1
      exact ⟨h2, h3.1⟩
  have hnd : ∀ k, k = bc → NoDig w k := fun k e => e ▸ hd
  refine ⟨h.box.same (hw.block gp h.box.2.2.2.2 (Ne.symm hbg)) hw.size, h.nodP.wr hw (Ne.symm hbg), Or.inr ⟨bc, zs, by rw [hqn]; exact hv, hbg, hz, hq⟩, fun g hg => ?_, ?_⟩
  · have h3 := h.nodR g hg
    exact ⟨h3.1.wr hw (fun e => h3.2.2 (by rw [hv, e]; rfl)), h3.2⟩
  · obtain ⟨rs, h1, h2, h3⟩ := h.rows
    refine ⟨rs, by rw [hqr]; exact h1, owns_eq h2 (fun g hg => ?_), fun i r row a b => ?_⟩
    · have hlt := (h2.lt g hg).2
      exact hw.block g hlt (fun e => (h.nodR g hg).2.2 (by rw [hv, e]; rfl))
    · rw [hqr] at b
      exact (h3 i r row a b).wr hw (fun k e => Or.inr (Or.inl (by rw [hv, e]; rfl))) hnd

/-- The columns were made. -/
theorem DQ.cols_made {w : World} {gp bc n : Nat} {vC vR : Value} {zs : List Int} (h : DQ w gp Prob.none vC vR) (hz : Whs w bc zs) (hbg : bc ≠ gp) (hbr : vR.ownBlock ≠ some bc) (hl : zs.length = 3 * n) :
    DQ (w.setCell ⟨gp, 0, none⟩ (.slice (some ⟨bc, 0, none⟩) n n)) gp ⟨n, [], [], []⟩ (.slice (some ⟨bc, 0, none⟩) n n) vR := by
  obtain ⟨b0, b1, b2, b3, b4⟩ := h.box
  have hw : Wr (fun k => k = gp) w (w.setCell ⟨gp, 0, none⟩ (.slice (some ⟨bc, 0, none⟩) n n)) := Wr.setCell (T := fun k => k = gp) (Wr.refl _ _) (p := ⟨gp, 0, none⟩) rfl _
  have hnd : ∀ k, k = gp → NoDig w k := fun k e => e ▸ h.nodP
  refine ⟨⟨World.cell?_setCell_same _ _ _ b0, ?_, by simpa using b2, by simpa using b3, by simpa using b4⟩, ?_, Or.inr ⟨bc, zs, rfl, hbg, hz.wr hw hbg hnd, hl, fun k hk => by simp at hk, fun k hk => by simp at hk⟩, fun g hg => ?_, ?_⟩
  · rw [World.cell?_setCell_other _ _ _ _ (by simp)]; exact b1
  · exact h.nodP.setCell b0 (by simp)
  · have h3 := h.nodR g hg
    refine ⟨h3.1.wr hw h3.2.1, h3.2.1, fun e => ?_⟩
    simp [Value.ownBlock] at e
    exact hbr (by rw [hg, e])
  · obtain ⟨rs, h1, h2, h3⟩ := h.rows
    obtain rfl : rs = [] := List.eq_nil_of_length_eq_zero (by simpa [Prob.none] using h1)
    refine ⟨[], rfl, owns_eq h2 (fun g hg => hw.block g (h2.lt g hg).2 (h.nodR g hg).2.1), fun i r row a b => by simp at a⟩

/-- The conditions have grown by one, and lie in their field. -/
theorem DQ.rows_grown {w w' : World} {gp g cap : Nat} {p : Prob} {vC vR : Value} {rs : List RowV} {r : RowV} {row : List Int × List UInt8 × Int} (h : DQ w gp p vC vR) (hl : rs.length = p.rows.length)
    (hrs : ∀ (i : Nat) (r : RowV) (row : List Int × List UInt8 × Int), rs[i]? = some r → p.rows[i]? = some row → RowIs w (Own gp vC vR) r row) (hr : RowIs w (Own gp vC vR) r row)
    (hown : w'.ownsRow 0 160 4 (.slice (some ⟨g, 0, none⟩) (rs.length + 1) cap) (rs.length + 1) (rowCells rs ++ r.cells)) (hg : w.grownBy w' vR.ownBlock) (hat : vR.ownBlock = some g ∨ g = w.heap.size) (hd : NoDig w' g) :
    DQ (w'.setCell ⟨gp, 1, none⟩ (.slice (some ⟨g, 0, none⟩) (rs.length + 1) cap)) gp { p with rows := p.rows ++ [row] } vC (.slice (some ⟨g, 0, none⟩) (rs.length + 1) cap) := by
  have hw : Wr (fun k => vR.ownBlock = some k) w w' := ⟨hg.os, hg.tape, hg.output, hg.size, fun k hk e => hg.block k hk (fun e2 => e e2.symm)⟩
  have hnd : ∀ k, vR.ownBlock = some k → NoDig w k := fun k e => (h.nodR k e).1
  have hgpR : ¬ vR.ownBlock = some gp := fun e => (h.nodR gp e).2.1 rfl
  have hbox' : Box2 w' gp vC vR := h.box.same (hw.block gp h.box.2.2.2.2 hgpR) hw.size
  have hnp' : NoDig w' gp := h.nodP.wr hw hgpR
  obtain ⟨b0, b1, b2, b3, b4⟩ := hbox'
  have hw2 : Wr (fun k => k = gp) w' (w'.setCell ⟨gp, 1, none⟩ (.slice (some ⟨g, 0, none⟩) (rs.length + 1) cap)) := Wr.setCell (T := fun k => k = gp) (Wr.refl _ _) (p := ⟨gp, 1, none⟩) rfl _
  have hnd2 : ∀ k, k = gp → NoDig w' k := fun k e => e ▸ hnp'
  have hgg : g ≠ gp := by
    rcases hat with e | e
    · exact (h.nodR g e).2.1
    · have := h.box.2.2.2.2; omega
  have hlt : ∀ k, vC.ownBlock = some k → k < w.heap.size ∧ ¬ vR.ownBlock = some k := by
    intro k hk
    rcases h.cols with ⟨_, e⟩ | ⟨bc, zs, e, e2, e3, _⟩
    · rw [e] at hk; cases hk
    · rw [e] at hk
      simp [Value.ownBlock] at hk
      subst hk
      exact ⟨e3.lt, fun e4 => (h.nodR bc e4).2.2 (by rw [e]; rfl)⟩
  have one : ∀ {r : RowV} {row : List Int × List UInt8 × Int}, RowIs w (Own gp vC vR) r row → RowIs (w'.setCell ⟨gp, 1, none⟩ (.slice (some ⟨g, 0, none⟩) (rs.length + 1) cap)) (Own gp vC (.slice (some ⟨g, 0, none⟩) (rs.length + 1) cap)) r row := by
    intro r row h1
    have h2 := h1.wr hw (fun k e => Or.inr (Or.inr e)) hnd
    have h3 : RowIs w' (Own gp vC (.slice (some ⟨g, 0, none⟩) (rs.length + 1) cap)) r row := by
      refine ⟨fun e => ?_, h2.2⟩
      rcases e with e | e | e
      · exact h1.1 (Or.inl e)
      · exact h1.1 (Or.inr (Or.inl e))
      · simp [Value.ownBlock] at e
        rcases hat with e2 | e2
        · exact h1.1 (Or.inr (Or.inr (by rw [e2, e])))
        · have := h1.2.2.1.lt; omega
    exact h3.wr hw2 (fun k e => Or.inl e) hnd2
  refine ⟨⟨?_, World.cell?_setCell_same _ _ _ b1, by simpa using b2, by simpa using b3, by simpa using b4⟩, hnp'.setCell b1 (by simp), ?_, fun k hk => ?_, rs ++ [r], by simp [hl], ?_, fun i r' row' a b => ?_⟩
  · rw [World.cell?_setCell_other _ _ _ _ (by simp)]; exact b0
  · rcases h.cols with h1 | ⟨bc, zs, h1, h2, h3, h4⟩
    · exact Or.inl h1
    · refine Or.inr ⟨bc, zs, h1, h2, ?_, h4⟩
      have hb := (hlt bc (by rw [h1]; rfl)).2
      exact (h3.wr hw hb hnd).wr hw2 h2 hnd2
  · simp [Value.ownBlock] at hk
    subst hk
    refine ⟨hd.wr hw2 hgg, hgg, fun e => ?_⟩
    rcases hat with e2 | e2
    · exact (hlt g e).2 e2
    · have := (hlt g e).1; omega
  · have e : rowCells rs ++ r.cells = rowCells (rs ++ [r]) := by simp [rowCells]
    rw [List.length_append, List.length_singleton, ← e]
    exact owns_eq hown (fun k hk => hw2.block k (hown.lt k hk).2 (by simp [Value.ownBlock] at hk; omega))
  · by_cases hi : i < rs.length
    · rw [List.getElem?_append_left hi] at a
      rw [List.getElem?_append_left (by omega)] at b
      exact one (hrs i r' row' a b)
    · have hie : i = rs.length := by
        have := (List.getElem?_eq_some_iff.1 a).1
        simp at this
        omega
      subst hie
      rw [List.getElem?_append_right (Nat.le_refl _), Nat.sub_self] at a
      rw [hl, List.getElem?_append_right (Nat.le_refl _), Nat.sub_self] at b
      simp at a b
      subst a b
      exact one hr
end Go.Proofs.YtnhfdcfnojnofaaGreatDoor
