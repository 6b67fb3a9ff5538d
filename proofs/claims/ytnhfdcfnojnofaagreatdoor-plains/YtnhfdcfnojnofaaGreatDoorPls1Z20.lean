/-
  Part 20 of the texts ahead of Pls1: Plc3, Its3, Prb3.
-/
import Derived.Test.YtnhfdcfnojnofaaGreatDoorPls1Z17
import Derived.Test.YtnhfdcfnojnofaaGreatDoorPls1Z18
import Derived.Test.YtnhfdcfnojnofaaGreatDoorPls1Z19
import Derived.Test.YtnhfdcfnojnofaaGreatDoorPls1Z15
set_option linter.unusedSimpArgs false
set_option linter.unusedVariables false
/-
  What fits does (package problem): a line read by one place for each of its words.
-/
namespace Go.Proofs.YtnhfdcfnojnofaaGreatDoor
open Go.RowKit
attribute [local go_sem] Oper.semAt_some wide_depth wide_fn

theorem Wr.keep {T : Nat → Prop} {w W W' : World} (h : Wr T w W) (hk : Keep w.heap.size W W') : Wr T w W' :=
  ⟨hk.os.trans h.os, hk.tape.trans h.tape, hk.output.trans h.output, Nat.le_trans h.size hk.size, fun k hlt ht => by
    have hb := h.block k hlt ht
    have hs : k < W.heap.size := Nat.lt_of_lt_of_le hlt h.size
    rw [← hb, Array.getElem?_eq_getElem hs]
    exact hk.block k _ (Array.getElem?_eq_getElem hs) (.inl hlt)⟩

theorem Wr.frozen {T : Nat → Prop} {w w' : World} (h : Wr T w w') {p : Addr} (hn : ¬ T p.block) (hlt : p.block < w.heap.size) : w'.frozen? p = w.frozen? p :=
  World.frozen?_of_block (w := w) (h.block p.block hlt hn)

/-- A store into a block that is newer than the first world. -/
theorem Wr.new {T : Nat → Prop} {w w' : World} (h : Wr T w w') {p : Addr} (hp : w.heap.size ≤ p.block) (v : Value) : Wr T w (w'.setCell p v) :=
  ⟨h.os, h.tape, h.output, by simpa using h.size, fun k hk ht => (Below.heap_setCell _ _ _ _ (by omega)).trans (h.block k hk ht)⟩

/-- Has a line one word for each of m places, each one that the place takes? -/
def fitsB (m : Nat) (ok : Nat → List UInt8 → Bool) (ws : List (List UInt8)) : Bool := decide (ws.length = m ∧ ∀ j, j < m → ok j (ws.getD j []) = true)

theorem words_bd {s : List UInt8} (k : Nat) (hk : k < (words s).length) : ((words s).getD k []).length ≤ s.length := by
  rw [List.getD_eq_getElem?_getD, List.getElem?_eq_getElem hk]
  exact (wordsF_len _ s).2 _ (List.getElem_mem hk)

set_option maxHeartbeats 2000000 in
set_option maxRecDepth 100000 in
theorem fits_any (s : List UInt8) (hs : s.length ≤ 2000) (pvs : List Value) (ok : Nat → List UInt8 → Bool) (T : Nat → Prop) (St : List (List UInt8) → World → Prop) (g cap : Nat) (w : World)
    (hT : ∀ x, T x → x < w.heap.size) (hg : ¬ T g) (hm9 : pvs.length ≤ 1000) (hcap : pvs.length ≤ cap) (hcap9 : cap ≤ 9223372036854775807)
    (hrow : ∀ i fv, pvs[i]? = some fv → w.cell? ⟨g, i, none⟩ = some fv)
    (hK : ∀ pre A B, St pre A → Keep w.heap.size A B → St pre B)
    (hS : ∀ pre A a y v, St pre A → A.cell? a = some y → (∀ k, y ≠ .int .u32 k) → w.heap.size ≤ a.block → St pre (A.setCell a v))
    (hstep : ∀ k fv, pvs[k]? = some fv → ∃ f q, fv = .func (.func f) #[] #[.pointer (some ⟨q, 0, none⟩)] ∧ (∀ args w, (callFunc f args).run Tryz.prog w = .ok (.enter f args) w) ∧
      ∀ pre x W, pre.length = k → x.length ≤ 2000 → Wr T w W → St pre W → Calls Tryz.prog f #[.string ⟨x.toArray⟩, .pointer (some ⟨q, 0, none⟩)] W fun e W' => e = .returned (.bool (ok k x)) ∧ Wr T W W' ∧ (ok k x = true → St (pre ++ [x]) W'))
    (h0 : St [] w) :
    Calls Tryz.prog 319 #[.string ⟨s.toArray⟩, .slice (some ⟨g, 0, none⟩) pvs.length cap] w fun e w' =>
      e = .returned (.bool (fitsB pvs.length ok (words s))) ∧ Wr T w w' ∧ (fitsB pvs.length ok (words s) = true → St (words s) w') := by
  obtain ⟨m, hm⟩ : ∃ m, pvs.length = m := ⟨_, rfl⟩
  rw [hm] at hm9 hcap ⊢
  have HS := hide hstep
  have HK := hide hK
  have HSC := hide hS
  have HR := hide hrow
  have HM := hide hm
  have HW := hide (fun k (hk : k < (words s).length) => Nat.le_trans (words_bd k hk) hs)
  have HQ := hide (words_seq s (by omega) (w.heap.size + 2))
  have hT1 := hide hT
  obtain ⟨ws, hws⟩ : ∃ ws, words s = ws := ⟨_, rfl⟩
  rw [hws] at HW HQ ⊢
  clear hstep hK hS hrow hm hT hws
  refine (callsIn_wide (n := 0)).1 ?_
  refine callsIn_of_wp_marks Tryz.func319 rfl trivial ?_ rfl
  simp only [Tryz.ntmps319, List.size_toArray, List.length_cons, List.length_nil, Nat.reduceAdd, Nat.reduceSub, Array.replicate_succ, Array.replicate_zero, List.push_toArray, List.append_toArray, List.nil_append, List.cons_append]
  gi_wp2
  refine (callsIn_wide.2 (words_mk _ _)).mono ?_
  rintro e w1 ⟨rfl, rfl⟩
  gi_wp2
  have hnT : ∀ x, w.heap.size ≤ x → ¬ T x := fun x hx ht => by have := hT1.out x ht; omega
  have NT := hide hnT
  clear hnT
  refine range_list HQ.out rfl (enters_f Tryz.func370 (by kernel_rfl) rfl) (fun v hv => ?_)
    (fun k M A => k ≤ m ∧ Hid (∀ j, j < k → ok j (ws.getD j []) = true) ∧ St (ws.take k) A ∧ Wr T w A ∧
      (∃ ao c, A.cell? ⟨w.heap.size, 0, none⟩ = some (.slice ao (m - k) c) ∧ (k < m → ao = some ⟨g, k, none⟩) ∧ m - k ≤ c ∧ c ≤ 9223372036854775807) ∧ A.frozen? ⟨w.heap.size, 0, none⟩ = false ∧
      A.cell? ⟨w.heap.size + 1, 0, none⟩ = some (.bool false) ∧ A.frozen? ⟨w.heap.size + 1, 0, none⟩ = false ∧
      A.cell? ⟨w.heap.size + 2, 0, none⟩ = some (.string ⟨s.toArray⟩) ∧ ∀ x, M x ↔ T x ∨ x = w.heap.size ∨ x = w.heap.size + 1)
    (fun c k A => c = .ret ∧ Wr T w A ∧ A.cell? ⟨w.heap.size + 1, 0, none⟩ = some (.bool false) ∧ fitsB m ok ws = false) (fun x => T x ∨ x = w.heap.size ∨ x = w.heap.size + 1) ?hI ?hIx ?hC ?h0 ?round ?done ?stop
  case hI =>
    rintro k M A B ⟨h1, h2, h3, h4, ⟨ao, c, h5, h6, h7, h8⟩, h9, h10, h11, h12, h13⟩ hk
    have hkw := hk.mono (B' := w.heap.size) (by simp; omega)
    exact ⟨h1, h2, HK.out _ _ _ h3 hkw, h4.keep hkw, ⟨ao, c, hk.cell h5, h6, h7, h8⟩, (hk.frozen h5).trans h9, hk.cell h10, (hk.frozen h10).trans h11, hk.cell h12, h13⟩
  case hIx =>
    rintro c k A B ⟨h1, h2, h3, h4⟩ hk
    exact ⟨h1, h2.keep (hk.mono (B' := w.heap.size) (by simp; omega)), hk.cell h3, h4⟩
  case hC =>
    rintro k M A ⟨h1, h2, h3, h4, ⟨ao, c, h5, h6, h7, h8⟩, h9, h10, h11, h12, h13⟩
    refine ⟨h12, fun x hx => ?_⟩
    rcases (h13 x).1 hx with h | h | h
    · exact Nat.lt_of_lt_of_le (hT1.out x h) h4.size
    · rw [h]; exact block_lt_of_cell h5
    · rw [h]; exact block_lt_of_cell h10
  case h0 =>
    refine ⟨Nat.zero_le _, fun j hj => by omega, HK.out _ _ _ h0 (((Keep.alloc _ _ _).trans (Keep.alloc _ _ _)).trans (Keep.alloc _ _ _)), ?_, ⟨some ⟨g, 0, none⟩, cap, ?_, fun _ => rfl, by omega, hcap9⟩, ?_, ?_, ?_, ?_, fun _ => Iff.rfl⟩
    · exact Wr.of_below ((((Below.refl _ w).alloc (Nat.le_refl _) _).alloc (by simp) _).alloc (by simp; omega) _)
    · exact (((Boxed.new w _ _).alloc _).alloc _).cell
    · exact (((Boxed.new w _ _).alloc _).alloc _).frozen
    · have := ((Boxed.new (w.alloc (.cells #[.slice (some ⟨g, 0, none⟩) m cap] 433)) 4 (.bool false)).alloc (.cells #[.string ⟨s.toArray⟩] 9)).cell
      rwa [World.size_alloc] at this
    · have := ((Boxed.new (w.alloc (.cells #[.slice (some ⟨g, 0, none⟩) m cap] 433)) 4 (.bool false)).alloc (.cells #[.string ⟨s.toArray⟩] 9)).frozen
      rwa [World.size_alloc] at this
    · have := (Boxed.new ((w.alloc (.cells #[.slice (some ⟨g, 0, none⟩) m cap] 433)).alloc (.cells #[.bool false] 4)) 9 (.string ⟨s.toArray⟩)).cell
      rwa [World.size_alloc, World.size_alloc] at this
  case round =>
    rintro l k v M A hv ⟨h1, h2, h3, h4, ⟨ao, c, h5, h6, h7, h8⟩, h9, h10, h11, h12, h13⟩
    obtain ⟨hkw, hvx⟩ : ∃ hk : k < ws.length, v = wordV (ws.getD k []) := by
      rw [List.getElem?_map] at hv
      cases hx : ws[k]? with
      | none => rw [hx] at hv; cases hv
      | some x =>
        rw [hx] at hv
        injection hv with hv
        exact ⟨(List.getElem?_eq_some_iff.1 hx).1, by rw [← hv, List.getD_eq_getElem?_getD, hx]; rfl⟩
    obtain ⟨x, hx⟩ : ∃ x, ws.getD k [] = x := ⟨_, rfl⟩
    have hx2 : x.length ≤ 2000 := hx ▸ HW.out k hkw
    rw [hx] at hvx
    subst hvx
    have HX := hide hx
    clear hx hv
    unfold RoundOK wordV
    gi_wp2
    refine ⟨Wr.refl _ _, fun A2 hk2 => ?_⟩
    have hk3 := hk2.mono (B' := w.heap.size) (by simp; omega)
    replace h3 := HK.out _ _ _ h3 hk3
    replace h4 := h4.keep hk3
    replace h9 := (hk2.frozen h5).trans h9
    replace h5 := hk2.cell h5
    replace h11 := (hk2.frozen h10).trans h11
    replace h10 := hk2.cell h10
    replace h12 := hk2.cell h12
    by_cases hkm : k < m
    · obtain rfl := h6 hkm
      obtain ⟨d, hd⟩ : ∃ d, m - k = d + 1 := ⟨m - k - 1, by omega⟩
      rw [hd] at h5 h7
      obtain ⟨fv, hfv⟩ : ∃ fv, pvs[k]? = some fv := ⟨_, List.getElem?_eq_getElem (by rw [HM.out]; exact hkm)⟩
      obtain ⟨f, q, rfl, hE, hcall⟩ := HS.out k fv hfv
      have hcg := h4.cell (p := ⟨g, k, none⟩) hg (HR.out k _ hfv)
      have HC := hide (hcall (ws.take k) x A2 (by rw [List.length_take]; omega) hx2 h4 h3)
      clear hcall
      gi_wp2
      refine (CallsIn.inRound l (callsIn_wide.2 HC.out)).mono ?_
      rintro e A3 ⟨rfl, hw3, hs3⟩
      have p5 := hw3.cell (p := ⟨w.heap.size, 0, none⟩) (NT.out _ (Nat.le_refl _)) h5
      have p9 := (hw3.frozen (p := ⟨w.heap.size, 0, none⟩) (NT.out _ (Nat.le_refl _)) (block_lt_of_cell h5)).trans h9
      have p10 := hw3.cell (p := ⟨w.heap.size + 1, 0, none⟩) (NT.out _ (by simp)) h10
      have p11 := (hw3.frozen (p := ⟨w.heap.size + 1, 0, none⟩) (NT.out _ (by simp)) (block_lt_of_cell h10)).trans h11
      have p12 := hw3.cell (p := ⟨w.heap.size + 2, 0, none⟩) (NT.out _ (by simp)) h12
      have h43 := h4.trans hw3
      by_cases hok : ok k x = true
      · have HS3 := hide (hs3 hok)
        clear hs3
        have H2 : Hid (∀ j, j < k + 1 → ok j (ws[j]?.getD []) = true) := by
          intro j hj
          rw [← List.getD_eq_getElem?_getD]
          by_cases hjk : j < k
          · exact h2.out j hjk
          · obtain rfl : j = k := by omega
            rw [HX.out]; exact hok
        have htk : ws.take (k + 1) = ws.take k ++ [x] := by
          rw [List.take_add_one, ← HX.out, List.getD_eq_getElem?_getD, List.getElem?_eq_getElem hkw]
          rfl
        have HTK := hide htk
        clear htk
        have hfin : ∀ (ao' : Option Addr) (c' : Nat), (0 < d → ao' = some ⟨g, k + 1, none⟩) → d ≤ c' → c' ≤ 9223372036854775807 →
            Wr M A2 (A3.setCell ⟨w.heap.size, 0, none⟩ (.slice ao' d c')) ∧ St (ws.take (k + 1)) (A3.setCell ⟨w.heap.size, 0, none⟩ (.slice ao' d c')) ∧ Wr T w (A3.setCell ⟨w.heap.size, 0, none⟩ (.slice ao' d c')) ∧
            (A3.setCell ⟨w.heap.size, 0, none⟩ (.slice ao' d c')).cell? ⟨w.heap.size, 0, none⟩ = some (.slice ao' (m - (k + 1)) c') ∧
            (A3.setCell ⟨w.heap.size, 0, none⟩ (.slice ao' d c')).frozen? ⟨w.heap.size, 0, none⟩ = false ∧
            (A3.setCell ⟨w.heap.size, 0, none⟩ (.slice ao' d c')).cell? ⟨w.heap.size + 1, 0, none⟩ = some (.bool false) ∧
            (A3.setCell ⟨w.heap.size, 0, none⟩ (.slice ao' d c')).frozen? ⟨w.heap.size + 1, 0, none⟩ = false ∧
            (A3.setCell ⟨w.heap.size, 0, none⟩ (.slice ao' d c')).cell? ⟨w.heap.size + 2, 0, none⟩ = some (.string ⟨s.toArray⟩) := by
          intro ao' c' h1' h2' h3'
          refine ⟨(hw3.mono fun y hy => (h13 y).2 (.inl hy)).setCell (p := ⟨w.heap.size, 0, none⟩) ((h13 _).2 (.inr (.inl rfl))) _, ?_, h43.new (p := ⟨w.heap.size, 0, none⟩) (Nat.le_refl _) _, ?_, by simpa using p9, ?_, by simpa using p11, ?_⟩
          · rw [HTK.out]
            exact HSC.out _ _ ⟨w.heap.size, 0, none⟩ _ _ HS3.out p5 (by simp) (Nat.le_refl _)
          · rw [World.cell?_setCell_same _ _ _ p5]
            rw [show m - (k + 1) = d by omega]
          · rw [far (by omega)]; exact p10
          · rw [far (by omega)]; exact p12
        have HF := hide hfin
        clear hfin
        gi_wp2
        · obtain rfl : d = 0 := by omega
          obtain ⟨f1, f2, f3, f4, f5, f6, f7, f8⟩ := HF.out (some ⟨g, k, none⟩) 0 (by omega) (by omega) (by omega)
          exact ⟨f1, M, ⟨by omega, H2, f2, f3, ⟨_, _, f4, by omega, by omega, by omega⟩, f5, f6, f7, f8, h13⟩, fun y hy => .inl hy⟩
        · obtain ⟨f1, f2, f3, f4, f5, f6, f7, f8⟩ := HF.out (some ⟨g, k + 1, none⟩) (c - 1) (fun _ => rfl) (by omega) (by omega)
          exact ⟨f1, M, ⟨by omega, H2, f2, f3, ⟨_, _, f4, fun _ => rfl, by omega, by omega⟩, f5, f6, f7, f8, h13⟩, fun y hy => .inl hy⟩
      · have hok' : ok k x = false := by simpa using hok
        clear hs3
        gi_wp2
        refine ⟨?_, rfl, ?_, ?_, ?_⟩
        · exact (hw3.mono fun y hy => (h13 y).2 (.inl hy)).setCell (p := ⟨w.heap.size + 1, 0, none⟩) ((h13 _).2 (.inr (.inr rfl))) _
        · exact h43.new (p := ⟨w.heap.size + 1, 0, none⟩) (by simp) _
        · exact World.cell?_setCell_same _ _ _ p10
        · refine decide_eq_false fun hh => ?_
          have := hh.2 k hkm
          rw [HX.out, hok'] at this
          cases this
    · obtain rfl : k = m := by omega
      rw [Nat.sub_self] at h5
      gi_wp2
      refine ⟨?_, rfl, ?_, ?_, ?_⟩
      · exact (Wr.refl _ _).setCell (p := ⟨w.heap.size + 1, 0, none⟩) ((h13 _).2 (.inr (.inr rfl))) _
      · exact h4.new (p := ⟨w.heap.size + 1, 0, none⟩) (by simp) _
      · exact World.cell?_setCell_same _ _ _ h10
      · exact decide_eq_false fun hh => by omega
  case done =>
    rintro D M A hD ⟨h1, h2, h3, h4, ⟨ao, c, h5, h6, h7, h8⟩, h9, h10, h11, h12, h13⟩ hd
    rw [List.length_map] at h1 h2 h3 h5 h6 h7
    have hfb : fitsB m ok ws = (((m - ws.length : Nat) : Int) == 0) := by
      rw [Bool.eq_iff_iff, fitsB, decide_eq_true_eq, beq_iff_eq]
      constructor
      · intro h; omega
      · intro h
        have he : ws.length = m := by omega
        exact ⟨he, fun j hj => h2.out j (by omega)⟩
    have HFB := hide hfb
    clear hfb
    gi_wp2
    have hd' : (A.setCell ⟨w.heap.size + 1, 0, none⟩ (.bool (((m - ws.length : Nat) : Int) == 0))).heap[D]? = some (.deferred (some [])) := (Below.heap_setCell _ _ _ _ (by simp at hD; simp; omega)).trans hd
    have hkp : Keep w.heap.size (A.setCell ⟨w.heap.size + 1, 0, none⟩ (.bool (((m - ws.length : Nat) : Int) == 0))) _ := Keep.putObj (.deferred none) (by simp at hD; omega) hd' rfl
    have hcr := hkp.cell (World.cell?_setCell_same A ⟨w.heap.size + 1, 0, none⟩ (.bool (((m - ws.length : Nat) : Int) == 0)) h10)
    refine leave_mark hd' ?_
    refine ⟨.bool (((m - ws.length : Nat) : Int) == 0), by simp [results, Tryz.results319, go_sem, hcr], by rw [HFB.out], (h4.new (p := ⟨w.heap.size + 1, 0, none⟩) (by simp) _).keep hkp, fun hf => ?_⟩
    rw [HFB.out] at hf
    have he : ws.length = m := by simp at hf; omega
    have h3' : St ws A := by rw [List.take_of_length_le (Nat.le_refl _)] at h3; exact h3
    exact HK.out _ _ _ (HSC.out _ _ ⟨w.heap.size + 1, 0, none⟩ _ _ h3' h10 (by simp) (by simp)) hkp
  case stop =>
    rintro D c k A hD hk ⟨rfl, h1, h2, h3⟩ hd
    gi_wp2
    have hkp : Keep w.heap.size A _ := Keep.putObj (.deferred none) (by simp at hD; omega) hd rfl
    have hcr := hkp.cell h2
    refine leave_mark hd ?_
    exact ⟨.bool false, by simp [results, Tryz.results319, go_sem, hcr], by rw [h3], h1.keep hkp, fun hf => by rw [h3] at hf; cases hf⟩
  · obtain ⟨i, hi, rfl⟩ := List.mem_map.1 hv
    rfl
end Go.Proofs.YtnhfdcfnojnofaaGreatDoor

/-
  Whole numbers in a row of cells, two each; what a place on a line does to one of them.
-/
namespace Go.Proofs.YtnhfdcfnojnofaaGreatDoor
open Go.RowKit

/-- Block b holds the whole numbers zs, two cells each, from its start on. -/
def Whs (w : World) (b : Nat) (zs : List Int) : Prop := NoDig w b ∧ ∀ j, j < zs.length → WholeAt w b (2 * j) (zs.getD j 0)

theorem Whs.lt {w : World} {b : Nat} {zs : List Int} (h : Whs w b zs) : b < w.heap.size := by
  obtain ⟨o, ho, _⟩ := h.1.1
  exact (Array.getElem?_eq_some_iff.1 ho).1

theorem Whs.keep {B : Nat} {w w' : World} {b : Nat} {zs : List Int} (h : Whs w b zs) (hk : Keep B w w') : Whs w' b zs :=
  ⟨h.1.keep hk, fun j hj => (h.2 j hj).keep hk⟩

theorem Whs.below {w w' : World} {b : Nat} {zs : List Int} (h : Whs w b zs) (hb : Below w.heap.size w w') : Whs w' b zs := h.keep (B := 0) (Keep.of_below hb)

theorem WholeAt.setCell {w : World} {b o : Nat} {z : Int} (h : WholeAt w b o z) {a : Addr} {y : Value} (hy : w.cell? a = some y) (hn : ∀ k, y ≠ .int .u32 k) (hb : a.block ≠ b) (v : Value) : WholeAt (w.setCell a v) b o z := by
  obtain ⟨x, ao, l, c, h1, h2, h3, h4, h5⟩ := h
  exact ⟨x, ao, l, c, (World.cell?_setCell_far _ _ _ _ hb).trans h1, (World.cell?_setCell_far _ _ _ _ hb).trans h2, h3.setCell hy hn v, by simpa using h4, by simpa using h5⟩

theorem NoDig.far {w : World} {b : Nat} (h : NoDig w b) {a : Addr} (hb : a.block ≠ b) (v : Value) : NoDig (w.setCell a v) b :=
  h.same (Below.heap_setCell _ _ _ _ (fun e => hb e.symm))

theorem Whs.setCell {w : World} {b : Nat} {zs : List Int} (h : Whs w b zs) {a : Addr} {y : Value} (hy : w.cell? a = some y) (hn : ∀ k, y ≠ .int .u32 k) (hb : a.block ≠ b) (v : Value) : Whs (w.setCell a v) b zs :=
  ⟨h.1.far hb v, fun j hj => (h.2 j hj).setCell hy hn hb v⟩

theorem WholeAt.wr {T : Nat → Prop} {w w' : World} {b o : Nat} {z : Int} (h : WholeAt w b o z) (hw : Wr T w w') (hb : ¬ T b) (ht : ∀ k, T k → NoDig w k) : WholeAt w' b o z := by
  have hlt := h.lt
  obtain ⟨x, ao, l, c, h1, h2, h3, h4, h5⟩ := h
  exact ⟨x, ao, l, c, hw.cell hb h1, hw.cell hb h2, h3.wr hw ht, (hw.frozen (p := ⟨b, o, none⟩) hb hlt).trans h4, (hw.frozen (p := ⟨b, o + 1, none⟩) hb hlt).trans h5⟩

theorem Whs.wr {T : Nat → Prop} {w w' : World} {b : Nat} {zs : List Int} (h : Whs w b zs) (hw : Wr T w w') (hb : ¬ T b) (ht : ∀ k, T k → NoDig w k) : Whs w' b zs :=
  ⟨h.1.wr hw hb, fun j hj => (h.2 j hj).wr hw hb ht⟩

/-- One of them is written anew. -/
theorem Whs.put {w : World} {b j : Nat} {zs : List Int} {z : Int} {x : Bool} {ao : Option Addr} {l c : Nat} (h : Whs w b zs) (hj : j < zs.length) (hv : WholeV w (.agg #[.bool x, .slice ao l c]) z) :
    Whs ((w.setCell ⟨b, 2 * j, none⟩ (.bool x)).setCell ⟨b, 2 * j + 1, none⟩ (.slice ao l c)) b (zs.set j z) := by
  obtain ⟨x0, a0, l0, c0, k0, k1, _⟩ := h.2 j hj
  refine ⟨?_, fun i hi => ?_⟩
  · have e1 : (w.setCell ⟨b, 2 * j, none⟩ (.bool x)).cell? ⟨b, 2 * j + 1, none⟩ = some (.slice a0 l0 c0) := by
      rw [World.cell?_setCell_other _ _ _ _ (by intro e; injection e with _ e2; omega)]; exact k1
    exact (h.1.setCell k0 (by simp)).setCell e1 (by simp)
  · rw [List.length_set] at hi
    by_cases hij : i = j
    · subst hij
      have e : (zs.set i z).getD i 0 = z := by simp [List.getD_eq_getElem?_getD, hi]
      rw [e]
      exact (h.2 i hi).put h.1 hv
    · have e : (zs.set j z).getD i 0 = zs.getD i 0 := by simp [List.getD_eq_getElem?_getD, List.getElem?_set_ne (Ne.symm hij)]
      rw [e]
      exact (h.2 i hi).other h.1 (by omega)

/-- The place of one of them reads a word. -/
theorem whole_place (x : List UInt8) (q b j o : Nat) (zs : List Int) (w : World) (h : w.cell? ⟨q, 0, none⟩ = some (.pointer (some ⟨b, o, none⟩))) (ho : o = 2 * j) (hz : Whs w b zs) (hj : j < zs.length) (hq : q ≠ b) (hx : x.length ≤ 2000) :
    Calls Tryz.prog 366 #[.string ⟨x.toArray⟩, .pointer (some ⟨q, 0, none⟩)] w fun e w' => e = .returned (.bool (dOk x)) ∧ Wr (fun k => k = b) w w' ∧ (dOk x = true → Whs w' b (zs.set j (T.wZ x))) := by
  subst ho
  refine (wholeInto_call x q b (2 * j) _ w h (hz.2 j hj) hq (by omega)).mono ?_
  rintro e w' ⟨rfl, w1, y, ao, l, c, hb, rfl, hv⟩
  refine ⟨rfl, ((Wr.of_below (T := fun k => k = b) hb).setCell (p := ⟨b, 2 * j, none⟩) rfl _).setCell (p := ⟨b, 2 * j + 1, none⟩) rfl _, fun hd => ?_⟩
  exact (hz.below hb).put hj (hv hd)

/-- What places write, one behind another: the k-th at pos k. -/
def putS (pos : Nat → Nat) : Nat → List Int → List (List UInt8) → List Int
  | _, zs, [] => zs
  | k, zs, x :: r => putS pos (k + 1) (zs.set (pos k) (T.wZ x)) r

theorem putS_snoc (pos : Nat → Nat) (x : List UInt8) : ∀ (r : List (List UInt8)) (k : Nat) (zs : List Int), putS pos k zs (r ++ [x]) = (putS pos k zs r).set (pos (k + r.length)) (T.wZ x)
  | [], k, zs => by simp [putS]
  | y :: r, k, zs => by
    rw [List.cons_append, putS, putS_snoc pos x r, putS, List.length_cons, show k + 1 + r.length = k + (r.length + 1) by omega]

theorem putS_len (pos : Nat → Nat) : ∀ (r : List (List UInt8)) (k : Nat) (zs : List Int), (putS pos k zs r).length = zs.length
  | [], _, _ => rfl
  | _ :: r, k, zs => by rw [putS, putS_len pos r, List.length_set]
end Go.Proofs.YtnhfdcfnojnofaaGreatDoor

/-
  What holds of a problem while it is read.
-/
namespace Go.Proofs.YtnhfdcfnojnofaaGreatDoor

theorem wZ_lt {l : List UInt8} (h : dOk l = true) : (T.wZ l).natAbs < 10 ^ 40 := by
  have h1 : (T.wZ l).natAbs = decVal (Lib.trimPrefix l [45]) := by
    unfold T.wZ sg
    split <;> simp
  rw [h1]
  exact T.okD_ten h

theorem wZs_lt {ws : List (List UInt8)} (h : ws.all dOk = true) : ∀ z ∈ ws.map T.wZ, z.natAbs < 10 ^ 40 := by
  intro z hz
  obtain ⟨l, hl, rfl⟩ := List.mem_map.1 hz
  exact wZ_lt (List.all_eq_true.1 h l hl)

/-- What holds of a problem ahead of its line number i, counted from 0 on. -/
structure PrOk (i : Nat) (p : Prob) : Prop where
  z : i = 0 → p = Prob.none
  n : 0 < i → 0 < p.n ∧ p.n ≤ 4
  r : i ≤ 2 + p.n → p.rows = []
  l : p.rows.length ≤ 6
  g : p.rg.length = min (i - 2) p.n
  m : 2 ≤ i → p.mx.length = p.n
  c : ∀ x ∈ p.rows, x.1.length = p.n ∧ isSign x.2.1 = true
  bm : ∀ z ∈ p.mx, z.natAbs < 10 ^ 40
  bg : ∀ r ∈ p.rg, r.1.natAbs < 10 ^ 40 ∧ r.2.natAbs < 10 ^ 40
  br : ∀ x ∈ p.rows, (∀ z ∈ x.1, z.natAbs < 10 ^ 40) ∧ x.2.2.natAbs < 10 ^ 40

theorem PrOk.start : PrOk 0 Prob.none := by
  refine ⟨fun _ => rfl, fun h => by omega, fun _ => rfl, by simp [Prob.none], by simp [Prob.none], fun h => by omega, fun x hx => by simp [Prob.none] at hx, fun x hx => by simp [Prob.none] at hx, fun x hx => by simp [Prob.none] at hx, fun x hx => by simp [Prob.none] at hx⟩

theorem varsN_le (ws : List (List UInt8)) : T.varsN ws ≤ 4 := by
  unfold T.varsN
  split
  · exact T.varB_le _
  · omega

theorem PrOk.step {i : Nat} {p q : Prob} {ws : List (List UInt8)} (h : PrOk i p) (ht : takeS i p ws = some q) : PrOk (i + 1) q := by
  unfold takeS at ht
  by_cases h0 : i = 0
  · rw [if_pos h0] at ht
    subst h0
    by_cases hv : T.varsN ws = 0
    · rw [if_pos hv] at ht; cases ht
    · rw [if_neg hv] at ht
      injection ht with ht
      subst ht
      exact ⟨fun h => by omega, fun _ => ⟨Nat.pos_of_ne_zero hv, varsN_le ws⟩, fun _ => rfl, by simp, by simp, fun h => by omega, fun x hx => by simp at hx, fun x hx => by simp at hx, fun x hx => by simp at hx, fun x hx => by simp at hx⟩
  · rw [if_neg h0] at ht
    have hn := h.n (by omega)
    by_cases h1 : i = 1
    · rw [if_pos h1] at ht
      subst h1
      split at ht
      · rename_i hc
        injection ht with ht
        subst ht
        have hg := h.g
        refine ⟨fun h => by omega, fun _ => hn, fun _ => h.r (by omega), h.l, by simpa using hg, fun _ => ?_, h.c, wZs_lt hc.2.2, h.bg, h.br⟩
        simp only [List.length_map, List.length_drop]
        omega
      · cases ht
    · rw [if_neg h1] at ht
      by_cases h2 : i ≤ 1 + p.n
      · rw [if_pos h2] at ht
        split at ht
        · rename_i hc
          injection ht with ht
          subst ht
          have hg := h.g
          refine ⟨fun h => by omega, fun _ => hn, fun _ => h.r (by omega), h.l, ?_, fun _ => h.m (by omega), h.c, h.bm, fun r hr => ?_, h.br⟩
          · simp only [List.length_append, List.length_singleton]
            omega
          · rcases List.mem_append.1 hr with e | e
            · exact h.bg r e
            · obtain rfl := List.mem_singleton.1 e
              obtain ⟨a, b, c, rfl⟩ : ∃ a b c, ws = [a, b, c] := by
                match ws, hc.1 with
                | [a, b, c], _ => exact ⟨a, b, c, rfl⟩
              have h3 : dOk b = true ∧ dOk c = true := by simpa using hc.2.2
              exact ⟨wZ_lt h3.1, wZ_lt h3.2⟩
        · cases ht
      · rw [if_neg h2] at ht
        split at ht
        · rename_i hc
          injection ht with ht
          subst ht
          have hg := h.g
          refine ⟨fun h => by omega, fun _ => hn, fun h => ?_, ?_, ?_, fun _ => h.m (by omega), fun x hx => ?_, h.bm, h.bg, fun x hx => ?_⟩
          · simp only at h; omega
          · simp only [List.length_append, List.length_singleton]; omega
          · simp only; omega
          · rcases List.mem_append.1 hx with e | e
            · exact h.c x e
            · obtain rfl := List.mem_singleton.1 e
              refine ⟨?_, hc.2.2.2.2.1⟩
              simp only [List.length_map, List.length_take, List.length_drop]
              omega
          · rcases List.mem_append.1 hx with e | e
            · exact h.br x e
            · obtain rfl := List.mem_singleton.1 e
              exact ⟨wZs_lt hc.2.2.2.1, wZ_lt hc.2.2.2.2.2⟩
        · cases ht

/-- What is read in the end. -/
theorem PrOk.read : ∀ (ls : List (List UInt8 × Bool)) (i : Nat) (p q : Prob), PrOk i p → readS i p ls = .ok q → PrOk (i + ls.length) q
  | [], i, p, q, h, hr => by
    simp only [readS, Except.ok.injEq] at hr
    subst hr
    exact h
  | l :: r, i, p, q, h, hr => by
    rw [readS] at hr
    split at hr
    · cases hr
    · split at hr
      · cases hr
      · rename_i q' hq
        have := PrOk.read r (i + 1) q' q (h.step hq) hr
        rw [List.length_cons, show i + (r.length + 1) = i + 1 + r.length by omega]
        exact this

/-- What Parse answers: a problem, or an error and a line. -/
def parseS (s : List UInt8) : Except (Nat × Nat) Prob :=
  if 2000 < s.length then .error (4, 0)
  else match readS 0 Prob.none (lines s) with
    | .error k => .error (5, k)
    | .ok p => if (lines s).length < 2 + p.n then .error (5, (lines s).length + 1) else match wideS 0 p.rg with
      | some i => .error (6, i + 3)
      | .none => .ok p

theorem plainS_parse (s : List UInt8) : plainS s = match parseS s with | .error e => ([], e.1, e.2) | .ok p => (textS p, 0, 0) := by
  unfold plainS parseS
  by_cases h : 2000 < s.length
  · rw [if_pos h, if_pos h]
  · rw [if_neg h, if_neg h]
    cases hr : readS 0 Prob.none (lines s) with
    | error k => rfl
    | ok p =>
      by_cases h2 : (lines s).length < 2 + p.n
      · simp only [h2, if_true]
      · simp only [h2, if_false]
        cases hw : wideS 0 p.rg <;> rfl
end Go.Proofs.YtnhfdcfnojnofaaGreatDoor
