/-
  Part 15 of the texts ahead of Pks1: Kpl8, Plc1, Apd1, Its2, Txt12, Txt13.
-/
import Derived.Test.YtnhfdcfnojnofaaGreatDoorPks1Z12
import Derived.Test.YtnhfdcfnojnofaaGreatDoorPks1Z14
import Derived.Test.YtnhfdcfnojnofaaGreatDoorProg
import Derived.Test.YtnhfdcfnojnofaaGreatDoorPks1Z1
import Derived.Test.YtnhfdcfnojnofaaGreatDoorPks1Z5
import Derived.Deep.AppendLies
import Derived.Deep.RegionLaw
import Derived.Test.YtnhfdcfnojnofaaGreatDoorPks1Z8
import Derived.Lib.IndexLaws
import Derived.Test.YtnhfdcfnojnofaaGreatDoorPks1Z9
set_option linter.unusedSimpArgs false
set_option linter.unusedVariables false
/-
  The keeper's small and its text (package planeskeep).
-/
namespace Go.Proofs.YtnhfdcfnojnofaaGreatDoor
open Go.RowKit

theorem ints_of_owns {B : Nat} {w : World} {v : Value} {zs : List Int} (h : w.ownsRow B 3 1 v (ivs zs).length (ivs zs)) : Ints w v zs := by
  have hl : (ivs zs).length = zs.length := ivs_len zs
  rw [hl] at h
  obtain ⟨h0, h1 | ⟨g, cap, cur, hv, hb, hh, hn, h4, h5, h6⟩⟩ := h
  · refine ⟨none, 0, by rw [h1.1, h1.2], fun h0 => by omega⟩
  · refine ⟨_, cap, hv, fun h0 => ⟨g, 0, rfl, (Array.getElem?_eq_some_iff.1 hh).1, fun i z hz => ?_⟩⟩
    have hi : i < zs.length := (List.getElem?_eq_some_iff.1 hz).1
    have e : cur.toList[i]? = some (.int .i64 z) := by
      have : (cur.toList.take (zs.length * 1))[i]? = some (.int .i64 z) := by rw [h6, ivs, List.getElem?_map, hz]; rfl
      rwa [List.getElem?_take_of_lt (by omega)] at this
    have e2 : cur[i]? = some (.int .i64 z) := by rw [← Array.getElem?_toList]; exact e
    rw [Nat.zero_add]
    exact (cell_of_row _ _ i _ _ _ hh).trans e2

theorem small_of_pen {B : Nat} {w : World} {vM vL vH vG vS vR : Value} {mx lo hi : List Int} {gv : List Value} {gs : List (List Int)} {ss rs : List Int} (h : Pen B w (sixL vM vL vH vG vS vR mx lo hi gv ss rs ++ rowsL gv gs)) (hl : gv.length = gs.length) : SmallV w vM vL vH vG vS vR mx lo hi gs ss rs := by
  refine ⟨ints_of_owns (h.own 0 _ _ _ rfl), ints_of_owns (h.own 1 _ _ _ rfl), ints_of_owns (h.own 2 _ _ _ rfl), ?_, ints_of_owns (h.own 4 _ _ _ rfl), ints_of_owns (h.own 5 _ _ _ rfl)⟩
  have h3 := h.own 3 _ _ _ rfl
  rw [hl] at h3
  obtain ⟨h0, h1 | ⟨g, cap, cur, hv, hb, hh, hn, h4, h5, h6⟩⟩ := h3
  · refine ⟨none, 0, by rw [h1.1, h1.2], fun h0 => by omega⟩
  · refine ⟨_, cap, hv, fun h0 => ⟨g, 0, rfl, (Array.getElem?_eq_some_iff.1 hh).1, fun i zs hz => ?_⟩⟩
    have hil : i < gs.length := (List.getElem?_eq_some_iff.1 hz).1
    have hiv : i < gv.length := by omega
    have hgi : gv[i]? = some gv[i] := List.getElem?_eq_getElem hiv
    have hrow : (sixL vM vL vH vG vS vR mx lo hi gv ss rs ++ rowsL gv gs)[6 + i]? = some (gv[i], 3, ivs zs) := by
      rw [List.getElem?_append_right (by simp [sixL])]
      have e6 : 6 + i - (sixL vM vL vH vG vS vR mx lo hi gv ss rs).length = i := by simp [sixL]
      rw [e6, rowsL, List.getElem?_map, (List.getElem?_zip_eq_some (z := (gv[i], zs))).2 ⟨hgi, hz⟩]
      rfl
    have ho := h.own _ _ _ _ hrow
    obtain ⟨a, l, c, hf⟩ := owns_form ho
    have e : cur.toList[i]? = some gv[i] := by
      have : (cur.toList.take (gs.length * 1))[i]? = some gv[i] := by rw [h6]; exact hgi
      rwa [List.getElem?_take_of_lt (by omega)] at this
    have e2 : cur[i]? = some gv[i] := by rw [← Array.getElem?_toList]; exact e
    rw [Nat.zero_add]
    refine ⟨a, l, c, ?_, ?_⟩
    · rw [← hf]
      exact (cell_of_row _ _ i _ _ _ hh).trans e2
    · rw [← hf]
      exact ints_of_owns ho

theorem small_gives (s : ByteArray) (w : World) (hs : s.size ≤ 9223372036854775807) :
    Calls Tryz.prog 23 #[.string s] w fun e w' => ∃ (vM vL vH vG vS vR : Value) (mx lo hi : List Int) (gs : List (List Int)) (ss rs : List Int), e = .returned (.agg #[vM, vL, vH, vG, vS, vR]) ∧ SmallV w' vM vL vH vG vS vR mx lo hi gs ss rs ∧ SmallP mx lo hi gs ss rs ∧ Below w.heap.size w w' := by
  refine (small_any s w hs).mono ?_
  rintro e w' ⟨B, n, vM, vL, vH, vG, vS, vR, mx, lo, hi, gv, gs, ss, rs, rfl, hn, h1, h2, h3, h4, h5, h6⟩
  exact ⟨vM, vL, vH, vG, vS, vR, mx, lo, hi, gs, ss, rs, rfl, small_of_pen h5 h4, ⟨by rw [h1.m]; omega, by rw [h1.m]; omega, by rw [h1.l, h1.m], by rw [h1.h, h1.m], h3, h2.s, h2.r, h1.bm, h1.bl, h1.bh, h1.w, fun g hg => ⟨by rw [h1.m]; exact (h2.bg g hg).1, (h2.bg g hg).2⟩, h2.bs, h2.br⟩, h6⟩

/-- The text of a small problem. -/
theorem smallText_gives (w : World) (vM vL vH vG vS vR : Value) (mx lo hi : List Int) (gs : List (List Int)) (ss rs : List Int) (hv : SmallV w vM vL vH vG vS vR mx lo hi gs ss rs) (hp : SmallP mx lo hi gs ss rs) (htab : Tab w) :
    Calls Tryz.prog 24 #[.agg #[vM, vL, vH, vG, vS, vR]] w fun e w' => e = .returned (.string ⟨(textS (probOf mx lo hi gs ss rs)).toArray⟩) ∧ Below w.heap.size w w' := by
  have h99 : (99 : Nat) < 10 ^ 10 := by decide
  have n3 := hp.n3
  have k3 := hp.k
  exact smallText_any w vM vL vH vG vS vR mx lo hi gs ss rs hv htab (by omega) hp.ll hp.lh (by omega) hp.ls hp.lr (fun z hz => Nat.lt_of_le_of_lt (hp.bm z hz) h99) (fun z hz => Nat.lt_of_le_of_lt (hp.bl z hz) h99) (fun z hz => Nat.lt_of_le_of_lt (hp.bh z hz) h99) (fun g hg => ⟨by rw [(hp.bg g hg).1]; omega, fun z hz => Nat.lt_of_le_of_lt ((hp.bg g hg).2 z hz) h99⟩) hp.bs (fun z hz => Nat.lt_of_le_of_lt (hp.br z hz) h99)
end Go.Proofs.YtnhfdcfnojnofaaGreatDoor

/-
  What the places of a line do (package problem): exactly, countInto, relationInto.
-/
namespace Go.Proofs.YtnhfdcfnojnofaaGreatDoor
open Go.RowKit

set_option maxHeartbeats 400000 in
theorem exactly_mk (s : ByteArray) (w : World) :
    Calls Tryz.prog 320 #[.string s] w fun e w' => e = .returned (.func (.func 364) #[] #[.pointer (some ⟨w.heap.size, 0, none⟩)]) ∧ w' = w.alloc (.cells #[.string s] 9) := by
  go_enter Tryz.func320, Tryz.ntmps320
  have hmf : ∀ (fn : Fn) (first cap : Array Value) (w : World), (Instr.makeFunc fn first cap).run Tryz.prog w = .ok (.func fn first cap) w := fun _ _ _ _ => rfl
  go_wp2
  go_ret
  exact ⟨rfl, rfl⟩

set_option maxHeartbeats 400000 in
theorem exactly_call (s t : List UInt8) (q : Nat) (w : World) (h : w.cell? ⟨q, 0, none⟩ = some (.string ⟨t.toArray⟩)) :
    Calls Tryz.prog 364 #[.string ⟨s.toArray⟩, .pointer (some ⟨q, 0, none⟩)] w fun e w' => e = .returned (.bool (decide (s = t))) ∧ w' = w := by
  go_enter Tryz.func364, Tryz.ntmps364
  go_wp2
  go_ret
  refine ⟨ret_bool ?_, rfl⟩
  rw [Bool.eq_iff_iff]
  simp

set_option maxHeartbeats 400000 in
theorem countInto_mk (a : Addr) (w : World) :
    Calls Tryz.prog 321 #[.pointer (some a)] w fun e w' => e = .returned (.func (.func 365) #[] #[.pointer (some ⟨w.heap.size, 0, none⟩)]) ∧ w' = w.alloc (.cells #[.pointer (some a)] 432) := by
  go_enter Tryz.func321, Tryz.ntmps321
  have hmf : ∀ (fn : Fn) (first cap : Array Value) (w : World), (Instr.makeFunc fn first cap).run Tryz.prog w = .ok (.func fn first cap) w := fun _ _ _ _ => rfl
  go_wp2
  go_ret
  exact ⟨rfl, rfl⟩

/-- What the one digit of a count says; 0: it is none. -/
def cntB (s : List UInt8) : Nat := if s.length = 1 then (if 49 ≤ (s.getD 0 0).toNat ∧ (s.getD 0 0).toNat ≤ 52 then (s.getD 0 0).toNat - 48 else 0) else 0

set_option maxHeartbeats 400000 in
theorem countInto_call (s : List UInt8) (q c : Nat) (z : Int) (w : World) (h : w.cell? ⟨q, 0, none⟩ = some (.pointer (some ⟨c, 0, none⟩))) (hc : w.cell? ⟨c, 0, none⟩ = some (.int .i64 z)) (hf : w.frozen? ⟨c, 0, none⟩ = false) (hs : s.length ≤ 1000000) :
    Calls Tryz.prog 365 #[.string ⟨s.toArray⟩, .pointer (some ⟨q, 0, none⟩)] w fun e w' => e = .returned (.bool (decide (cntB s ≠ 0))) ∧ (w' = w ∨ w' = w.drew.setCell ⟨c, 0, none⟩ (.int .i64 (cntB s : Int))) ∧ (cntB s ≠ 0 → w'.cell? ⟨c, 0, none⟩ = some (.int .i64 (cntB s : Int))) := by
  by_cases h1 : s.length = 1
  · obtain ⟨x, rfl⟩ : ∃ x, s = [x] := List.length_eq_one_iff.1 h1
    by_cases hx : 49 ≤ x.toNat ∧ x.toNat ≤ 52
    · have hm : Tryz.prog.follows .mixedOrders = true := by kernel_rfl
      have hcb : cntB [x] = x.toNat - 48 := by simp [cntB, hx]
      have e0 : ({ data := #[x] } : ByteArray)[0]'(by simp [ByteArray.size]) = x := rfl
      rw [hcb]
      obtain ⟨n, hn⟩ : ∃ n, x.toNat = n := ⟨_, rfl⟩
      rw [hn] at hx ⊢
      have hw : IntKind.u8.wrap ((n : Int) - 48) = ((n - 48 : Nat) : Int) := by
        obtain rfl | rfl | rfl | rfl : n = 49 ∨ n = 50 ∨ n = 51 ∨ n = 52 := by omega
        all_goals rfl
      have hw2 : IntKind.i64.wrap ((n - 48 : Nat) : Int) = ((n - 48 : Nat) : Int) := by
        obtain rfl | rfl | rfl | rfl : n = 49 ∨ n = 50 ∨ n = 51 ∨ n = 52 := by omega
        all_goals rfl
      go_enter Tryz.func365, Tryz.ntmps365
      go_wp2
      go_region
      all_goals go_wp2
      all_goals go_ret
      all_goals refine ⟨ret_bool (by simp; omega), .inr rfl, fun _ => World.cell?_setCell_same _ _ _ hc⟩
    · have hcb : cntB [x] = 0 := by simp [cntB, hx]
      rw [hcb]
      have e0 : ({ data := #[x] } : ByteArray)[0]'(by simp [ByteArray.size]) = x := rfl
      go_enter Tryz.func365, Tryz.ntmps365
      go_wp2
      all_goals first
        | (exfalso; omega)
        | (go_ret; first | exact ⟨rfl, .inl rfl, fun h => absurd rfl h⟩ | exact ⟨rfl, .inl rfl⟩ | exact .inl rfl)
  · have hcb : cntB s = 0 := by simp [cntB, h1]
    rw [hcb]
    have h1' : ¬ (s.length : Int) = 1 := by omega
    go_enter Tryz.func365, Tryz.ntmps365
    go_wp2
    go_ret
    exact ⟨rfl, .inl rfl, fun h => absurd rfl h⟩

set_option maxHeartbeats 400000 in
theorem wholeInto_mk (a : Addr) (w : World) :
    Calls Tryz.prog 322 #[.pointer (some a)] w fun e w' => e = .returned (.func (.func 366) #[] #[.pointer (some ⟨w.heap.size, 0, none⟩)]) ∧ w' = w.alloc (.cells #[.pointer (some a)] 435) := by
  go_enter Tryz.func322, Tryz.ntmps322
  have hmf : ∀ (fn : Fn) (first cap : Array Value) (w : World), (Instr.makeFunc fn first cap).run Tryz.prog w = .ok (.func fn first cap) w := fun _ _ _ _ => rfl
  go_wp2
  go_ret
  exact ⟨rfl, rfl⟩

set_option maxHeartbeats 400000 in
theorem relationInto_mk (a : Addr) (w : World) :
    Calls Tryz.prog 324 #[.pointer (some a)] w fun e w' => e = .returned (.func (.func 368) #[] #[.pointer (some ⟨w.heap.size, 0, none⟩)]) ∧ w' = w.alloc (.cells #[.pointer (some a)] 440) := by
  go_enter Tryz.func324, Tryz.ntmps324
  have hmf : ∀ (fn : Fn) (first cap : Array Value) (w : World), (Instr.makeFunc fn first cap).run Tryz.prog w = .ok (.func fn first cap) w := fun _ _ _ _ => rfl
  go_wp2
  go_ret
  exact ⟨rfl, rfl⟩

set_option maxHeartbeats 1000000 in
set_option maxRecDepth 100000 in
theorem relationInto_call (s : List UInt8) (q c : Nat) (z : ByteArray) (w : World) (h : w.cell? ⟨q, 0, none⟩ = some (.pointer (some ⟨c, 0, none⟩))) (hc : w.cell? ⟨c, 0, none⟩ = some (.string z)) (hf : w.frozen? ⟨c, 0, none⟩ = false) :
    Calls Tryz.prog 368 #[.string ⟨s.toArray⟩, .pointer (some ⟨q, 0, none⟩)] w fun e w' => e = .returned (.bool (isSign s)) ∧ Wr (fun k => k = c) w w' ∧ (isSign s = true → ∃ w1, Below w.heap.size w w1 ∧ w' = w1.setCell ⟨c, 0, none⟩ (.string ⟨s.toArray⟩)) := by
  go_enter Tryz.func368, Tryz.ntmps368
  go_wp2
  obtain ⟨w0, hw0⟩ : ∃ w0, w.alloc (.cells #[.string ⟨#[60, 61]⟩, .string ⟨#[62, 61]⟩, .string ⟨#[61]⟩] 157) = w0 := ⟨_, rfl⟩
  have hb0 : Below w.heap.size w w0 := by rw [← hw0]; exact (Below.refl _ _).alloc (Nat.le_refl _) _
  have r0 : w0.cell? ⟨w.heap.size, 0, none⟩ = some (.string ⟨#[60, 61]⟩) := by rw [← hw0]; simp
  have r1 : w0.cell? ⟨w.heap.size, 1, none⟩ = some (.string ⟨#[62, 61]⟩) := by rw [← hw0]; simp
  have r2 : w0.cell? ⟨w.heap.size, 2, none⟩ = some (.string ⟨#[61]⟩) := by rw [← hw0]; simp
  have hlt : c < w.heap.size := block_lt_of_cell hc
  have hlq : q < w.heap.size := block_lt_of_cell h
  have h2 := (hb0.cell (p := ⟨q, 0, none⟩) hlq).trans h
  have hc2 := (hb0.cell (p := ⟨c, 0, none⟩) hlt).trans hc
  have hf2 := (hb0.frozen (p := ⟨c, 0, none⟩) hlt).trans hf
  try rw [hw0]
  have hyes : ∀ x : List UInt8, s = x → isSign x = true → Wr (fun k => k = c) w (w0.setCell ⟨c, 0, none⟩ (.string ⟨x.toArray⟩)) ∧ (isSign s = true → ∃ w1, Below w.heap.size w w1 ∧ w0.setCell ⟨c, 0, none⟩ (.string ⟨x.toArray⟩) = w1.setCell ⟨c, 0, none⟩ (.string ⟨s.toArray⟩)) := by
    intro x hx _
    subst hx
    exact ⟨(Wr.of_below (T := fun k => k = c) hb0).setCell (p := ⟨c, 0, none⟩) rfl _, fun _ => ⟨w0, hb0, rfl⟩⟩
  have HY := hide hyes
  clear hyes hw0
  go_loopw [8] (fun i wr => ∃ k : Nat, k ≤ 3 ∧ i = .int .i64 (k : Int) ∧ wr = w0 ∧ Hid ((0 < k → s ≠ [60, 61]) ∧ (1 < k → s ≠ [62, 61]) ∧ (2 < k → s ≠ [61]))) (fun i _ => 3 - (intOf i).toNat)
  case atStart => exact ⟨0, by omega, rfl, rfl, by omega, by omega, by omega⟩
  case round =>
    obtain ⟨k, hk, rfl, rfl, HN⟩ := hrel
    obtain rfl | rfl | rfl | rfl : k = 0 ∨ k = 1 ∨ k = 2 ∨ k = 3 := by omega
    · go_wp2
      · rename_i hh
        have hs : s = [60, 61] := by simpa using hh
        have e1 : isSign s = true := by rw [hs]; rfl
        go_ret
        exact ⟨by rw [e1]; rfl, HY.out [60, 61] hs rfl⟩
      · rename_i hh
        have hs : s ≠ [60, 61] := by simpa using hh
        refine ⟨⟨1, by omega, rfl, trivial, ?_⟩, by simp [intOf]⟩
        exact ⟨fun _ => hs, by omega, by omega⟩
    · go_wp2
      · rename_i hh
        have hs : s = [62, 61] := by simpa using hh
        have e1 : isSign s = true := by rw [hs]; rfl
        go_ret
        exact ⟨by rw [e1]; rfl, HY.out [62, 61] hs rfl⟩
      · rename_i hh
        have hs : s ≠ [62, 61] := by simpa using hh
        refine ⟨⟨2, by omega, rfl, trivial, ?_⟩, by simp [intOf]⟩
        exact ⟨fun _ => HN.out.1 (by omega), fun _ => hs, by omega⟩
    · go_wp2
      · rename_i hh
        have hs : s = [61] := by simpa using hh
        have e1 : isSign s = true := by rw [hs]; rfl
        go_ret
        exact ⟨by rw [e1]; rfl, HY.out [61] hs rfl⟩
      · rename_i hh
        have hs : s ≠ [61] := by simpa using hh
        refine ⟨⟨3, by omega, rfl, trivial, ?_⟩, by simp [intOf]⟩
        exact ⟨fun _ => HN.out.1 (by omega), fun _ => HN.out.2.1 (by omega), fun _ => hs⟩
    · have e1 : isSign s = false := by simp [isSign, HN.out.1 (by omega), HN.out.2.1 (by omega), HN.out.2.2 (by omega)]
      go_wp2
      go_ret
      exact ⟨by rw [e1]; rfl, Wr.of_below hb0, fun h => by rw [e1] at h; cases h⟩
end Go.Proofs.YtnhfdcfnojnofaaGreatDoor

/-
  Appending to a row of one's own: no cell of the row comes to be a digit.
-/
namespace Go.Proofs.YtnhfdcfnojnofaaGreatDoor
open Go.RowKit

/-- No digit of a number. -/
def NotDig (v : Value) : Prop := ∀ n, v ≠ .int .u32 n

/-- Block k holds cells, and none of them a digit. -/
def NoDig (w : World) (k : Nat) : Prop := (∃ o : Obj, w.heap[k]? = some o ∧ o.isCells = true) ∧ ∀ o v, w.cell? ⟨k, o, none⟩ = some v → ∀ n, v ≠ .int .u32 n

theorem nodig_of_block {w : World} {g : Nat} {cs : Array Value} {t : TypeId} {fr : Nat × Nat} (h : w.heap[g]? = some (.cells cs t fr)) (hc : ∀ v ∈ cs.toList, NotDig v) : NoDig w g := by
  refine ⟨⟨_, h, rfl⟩, fun o v hv n => ?_⟩
  rw [cell_of_row w g o cs t fr h] at hv
  exact hc v (by simpa using Array.mem_of_getElem? hv) n

theorem NoDig.block {w : World} {g : Nat} {cs : Array Value} {t : TypeId} {fr : Nat × Nat} (hn : NoDig w g) (h : w.heap[g]? = some (.cells cs t fr)) : ∀ v ∈ cs.toList, NotDig v := by
  intro v hv
  obtain ⟨j, hj, rfl⟩ := Array.mem_iff_getElem.1 (by simpa using hv : v ∈ cs)
  refine hn.2 j _ ?_
  rw [cell_of_row w g j cs t fr h, Array.getElem?_eq_getElem hj]

theorem zeroCells_dig {z : Array Value} {k : Nat} (hz : ∀ u ∈ z.toList, NotDig u) : ∀ u ∈ (Builtin.zeroCells z k).toList, NotDig u := by
  intro u hu
  simp [Builtin.zeroCells] at hu
  obtain ⟨j, hj, rfl⟩ := hu
  have hp : 0 < z.size := by
    rcases Nat.eq_zero_or_pos z.size with h | h
    · rw [h] at hj; omega
    · exact h
  have hm : j % z.size < z.size := Nat.mod_lt _ hp
  refine hz _ ?_
  rw [getElem!_pos z (j % z.size) hm]
  simp

section
variable {P : Program} (w : World)

theorem append_nodig (t ty : TypeId) (base : Nat) (e : TypeId) (i : TypeInfo) (z : Value) (size bytes : Nat) (ht : P.underlying t = some (.slice e)) (hi : P.info? e = some i) (hz : i.zero = some z)
    (hsize : i.size = size) (hby : i.bytes = bytes) (hzs : z.cells.size = size) (hsz : 0 < size)
    (v : Value) (n : Nat) (xs : List Value) (hown : w.ownsRow base e size v n xs)
    (ad : Addr) (m c : Nat) (news : List Value) (hl : news.length = m * size) (hnews : ∀ j u, news[j]? = some u → w.cell? (ad.add j) = some u) (h1 : ∀ u ∈ news, u.oneCell' = true)
    (hm : 0 < m) (h63 : n + m ≤ maxLen) (hbytes : (n + m) * bytes ≤ 140737488355328)
    (hzn : ∀ u ∈ z.cells.toList, NotDig u) (hnn : ∀ u ∈ news, NotDig u) (hvn : ∀ g, v.ownBlock = some g → NoDig w g) {v' : Value} {w' : World}
    (hr : (Builtin.append_ #[t, t] ty #[v, .slice (some ad) m c]).run P w = .ok v' w') : ∀ g, v'.ownBlock = some g → NoDig w' g := by
  subst hsize
  subst hby
  have hsmall : n + m ≤ 9223372036854775807 := by simp only [maxLen] at h63; omega
  rcases hown.2 with ⟨rfl, rfl⟩ | ⟨g, cap, cur, rfl, hbg, hg, hnc, hcm, hcs, htake⟩
  · have hr2 := run_append_nil (P := P) w t ty e i z ht hi hz ad m c news hl hnews (by omega) (by omega) (by have hb := hbytes; simp only [Nat.zero_add] at hb; omega)
    rw [hr2] at hr
    simp only [Result.ok.injEq] at hr
    obtain ⟨rfl, rfl⟩ := hr
    intro g hg
    simp [Value.ownBlock] at hg
    subst hg
    refine nodig_of_block (heap_alloc_new w.drew _) ?_
    intro u hu
    rw [Array.toList_append, List.mem_append] at hu
    rcases hu with h | h
    · exact hnn u (by simpa using h)
    · exact zeroCells_dig hzn u h
  · have hN := (hvn g rfl).block hg
    by_cases hroom : n + m ≤ cap
    · have hfit : n * i.size + news.length ≤ cur.size := by rw [hl, hcs, ← Nat.add_mul]; exact Nat.mul_le_mul_right _ hroom
      have hr2 := run_append_room (P := P) w t ty e i ht hi g n cap cur hg ad m c news hl hnews h1 hroom hfit
      rw [hr2] at hr
      simp only [Result.ok.injEq] at hr
      obtain ⟨rfl, rfl⟩ := hr
      intro g' hg'
      simp [Value.ownBlock] at hg'
      subst hg'
      refine nodig_of_block (setRow_heap w g cur _ e _ hg) ?_
      intro u hu
      simp only [List.mem_append] at hu
      rcases hu with (h | h) | h
      · exact hN u (List.mem_of_mem_take h)
      · exact hnn u h
      · exact hN u (List.mem_of_mem_drop h)
    · have holds : ∀ j u, xs[j]? = some u → w.cell? ((⟨g, 0, none⟩ : Addr).add j) = some u := hown.cells (g := g) rfl
      have hr2 := run_append_grow (P := P) w t ty e i z ht hi hz ⟨g, 0, none⟩ n cap xs hown.1 holds ad m c news hl hnews (by omega) (by omega) (growslice_fits (by omega) hbytes)
      rw [hr2] at hr
      simp only [Result.ok.injEq] at hr
      obtain ⟨rfl, rfl⟩ := hr
      intro g' hg'
      simp [Value.ownBlock] at hg'
      subst hg'
      refine nodig_of_block (heap_alloc_new w.drew _) ?_
      intro u hu
      rw [Array.toList_append, Array.toList_append, List.mem_append, List.mem_append] at hu
      rcases hu with (h | h) | h
      · exact hN u (List.mem_of_mem_take (by rw [htake]; simpa using h))
      · exact hnn u (by simpa using h)
      · exact zeroCells_dig hzn u h

theorem wp_append_dig {o : Oper} {a : Act} {K : Act → World → Prop} {Q : Exit → Act → World → Prop} (s x : Operand) (t : TypeId)
    (ho : o.op = .call { callee := .builtin .append, args := #[s, x], argTypes := #[t, t] })
    (base : Nat) (e : TypeId) (i : TypeInfo) (z : Value) (size bytes : Nat) (ht : P.underlying t = some (.slice e)) (hi : P.info? e = some i) (hz : i.zero = some z)
    (hsize : i.size = size) (hby : i.bytes = bytes) (hzs : z.cells.size = size) (hsz : 0 < size)
    (v : Value) (n : Nat) (xs : List Value) (hs : a.eval s = v) (hown : w.ownsRow base e size v n xs)
    (ad : Addr) (m c : Nat) (news : List Value) (hx : a.eval x = .slice (some ad) m c) (hl : news.length = m * size) (hnews : ∀ j u, news[j]? = some u → w.cell? (ad.add j) = some u) (h1 : ∀ u ∈ news, u.oneCell' = true)
    (hm : 0 < m) (h63 : n + m ≤ maxLen) (hbytes : (n + m) * bytes ≤ 140737488355328) (hbase : base ≤ w.heap.size) (H : Nat) (hH : w.heap.size = H)
    (hzn : ∀ u ∈ z.cells.toList, NotDig u) (hnn : ∀ u ∈ news, NotDig u) (hvn : ∀ g, v.ownBlock = some g → NoDig w g)
    (h : ∀ g cap w', w'.ownsRow base e size (.slice (some ⟨g, 0, none⟩) (n + m) cap) (n + m) (xs ++ news) → w.grownBy w' v.ownBlock → (v.ownBlock = some g ∨ g = H) → g < w'.heap.size → NoDig w' g → K (a.put o.dst (.slice (some ⟨g, 0, none⟩) (n + m) cap)) w') : o.wp P a w K Q := by
  obtain ⟨g, cap, w', hr, h2, h3, h4, h5⟩ := run_append_lies (P := P) w t o.type base e i z size bytes ht hi hz hsize hby hzs hsz v n xs hown ad m c news hl hnews h1 hm h63 hbytes hbase H hH
  have h6 := append_nodig (P := P) w t o.type base e i z size bytes ht hi hz hsize hby hzs hsz v n xs hown ad m c news hl hnews h1 hm h63 hbytes hzn hnn hvn hr g rfl
  unfold Oper.wp execOp
  simp only [ho, resolve, invoke, builtin, Sem.run_bind, Sem.run_pure, Result.andThen_ok, List.map_toArray, List.map_cons, List.map_nil, hs, hx, hr]
  exact h g cap w' h2 h3 h4 h5 h6

theorem step_append_dig {ops : Array Oper} {o : Oper} {a : Act} {K : Act → World → Prop} {Q : Exit → Act → World → Prop} {E : Prop} (hgd : o.guard = none) (s x : Operand) (t : TypeId)
    (ho : o.op = .call { callee := .builtin .append, args := #[s, x], argTypes := #[t, t] })
    (base : Nat) (e : TypeId) (i : TypeInfo) (z : Value) (size bytes : Nat) (ht : P.underlying t = some (.slice e)) (hi : P.info? e = some i) (hz : i.zero = some z)
    (hsize : i.size = size) (hby : i.bytes = bytes) (hzs : z.cells.size = size) (hsz : 0 < size)
    (v : Value) (n : Nat) (xs : List Value) (hs : a.eval s = v) (hown : w.ownsRow base e size v n xs)
    (ad : Addr) (m c : Nat) (news : List Value) (hx : a.eval x = .slice (some ad) m c) (hl : news.length = m * size) (hnews : ∀ j u, news[j]? = some u → w.cell? (ad.add j) = some u) (h1 : ∀ u ∈ news, u.oneCell' = true)
    (hm : 0 < m) (h63 : n + m ≤ maxLen) (hbytes : (n + m) * bytes ≤ 140737488355328) (hbase : base ≤ w.heap.size) (H : Nat) (hH : w.heap.size = H)
    (hzn : ∀ u ∈ z.cells.toList, NotDig u) (hnn : ∀ u ∈ news, NotDig u) (hvn : ∀ g, v.ownBlock = some g → NoDig w g)
    (h : ∀ g cap w', w'.ownsRow base e size (.slice (some ⟨g, 0, none⟩) (n + m) cap) (n + m) (xs ++ news) → w.grownBy w' v.ownBlock → (v.ownBlock = some g ∨ g = H) → g < w'.heap.size → NoDig w' g → K (a.put o.dst (.slice (some ⟨g, 0, none⟩) (n + m) cap)) w') :
    if Region.wanted o (yielded ops a.tmps) = true then Oper.wp P o a w K Q else E := by
  have hw : Region.wanted o (yielded ops a.tmps) = true := by simp [Region.wanted, hgd]
  rw [if_pos hw]
  exact wp_append_dig w s x t ho base e i z size bytes ht hi hz hsize hby hzs hsz v n xs hs hown ad m c news hx hl hnews h1 hm h63 hbytes hbase H hH hzn hnn hvn h
end
end Go.Proofs.YtnhfdcfnojnofaaGreatDoor

/-
  What stays where cells stay: digits, naturals, whole numbers; a whole number that lies in two cells.
-/
namespace Go.Proofs.YtnhfdcfnojnofaaGreatDoor
open Go.RowKit

theorem Row.kept {B : Nat} {w w' : World} {b off : Nat} {ds : List Nat} (h : Row w b off ds) (hk : Keep B w w') : Row w' b off ds :=
  fun i hi => hk.cell (h i hi)

theorem NatV.keep {B : Nat} {w w' : World} {v : Value} {n : Nat} (h : NatV w v n) (hk : Keep B w w') : NatV w' v n := by
  obtain ⟨ds, ⟨ao, cap, hv, hc, hr⟩, h2⟩ := h
  refine ⟨ds, ⟨ao, cap, hv, hc, fun hne => ?_⟩, h2⟩
  obtain ⟨b, off, ha, hlt, hrow⟩ := hr hne
  exact ⟨b, off, ha, Nat.lt_of_lt_of_le hlt hk.size, hrow.kept hk⟩

theorem WholeV.keep {B : Nat} {w w' : World} {x : Value} {z : Int} (h : WholeV w x z) (hk : Keep B w w') : WholeV w' x z := by
  obtain ⟨b, v, h1, h2, h3⟩ := h
  exact ⟨b, v, h1, h2.keep hk, h3⟩

theorem NoDig.same {w w' : World} {k : Nat} (h : NoDig w k) (he : w'.heap[k]? = w.heap[k]?) : NoDig w' k := by
  obtain ⟨⟨o, ho, hc⟩, h2⟩ := h
  exact ⟨⟨o, he.trans ho, hc⟩, fun p v hv => h2 p v ((World.cell?_of_block (w := w) he).symm.trans hv)⟩

theorem NoDig.keep {B : Nat} {w w' : World} {k : Nat} (h : NoDig w k) (hk : Keep B w w') : NoDig w' k := by
  obtain ⟨o, ho, hc⟩ := h.1
  exact h.same ((hk.block k o ho (.inr hc)).trans ho.symm)

theorem NoDig.wr {T : Nat → Prop} {w w' : World} {k : Nat} (h : NoDig w k) (hw : Wr T w w') (ht : ¬ T k) : NoDig w' k := by
  obtain ⟨o, ho, hc⟩ := h.1
  exact h.same (hw.block k (Array.getElem?_eq_some_iff.1 ho).1 ht)

theorem NoDig.setCell {w : World} {k p : Nat} {y : Value} (h : NoDig w k) (hx : w.cell? ⟨k, p, none⟩ = some y) {v : Value} (hv : ∀ n, v ≠ .int .u32 n) : NoDig (w.setCell ⟨k, p, none⟩ v) k := by
  obtain ⟨⟨o, ho, hc⟩, h2⟩ := h
  refine ⟨?_, fun q u hu n => ?_⟩
  · obtain ⟨hlt, he⟩ := Array.getElem?_eq_some_iff.1 ho
    have hl2 : k < (w.setCell ⟨k, p, none⟩ v).heap.size := by simpa [World.setCell] using hlt
    refine ⟨_, Array.getElem?_eq_getElem hl2, ?_⟩
    simp only [World.setCell, Array.getElem_modify, if_true, he]
    cases o <;> simp_all [Obj.isCells]
  · by_cases hpq : p = q
    · subst hpq
      rw [World.cell?_setCell_same _ _ _ hx] at hu
      cases hu
      exact hv n
    · rw [World.cell?_setCell_other _ _ _ _ (by intro e; injection e with _ e2; exact hpq e2)] at hu
      exact h2 q u hu n

theorem NatV.wr {T : Nat → Prop} {w w' : World} {v : Value} {n : Nat} (h : NatV w v n) (hw : Wr T w w') (ht : ∀ k, T k → NoDig w k) : NatV w' v n := by
  obtain ⟨ds, ⟨ao, cap, hv, hc, hr⟩, h2⟩ := h
  refine ⟨ds, ⟨ao, cap, hv, hc, fun hne => ?_⟩, h2⟩
  obtain ⟨b, off, ha, hlt, hrow⟩ := hr hne
  have hb : ¬ T b := by
    intro e
    have h0 : 0 < ds.length := List.length_pos_iff.2 hne
    exact (ht b e).2 _ _ (hrow 0 h0) _ rfl
  exact ⟨b, off, ha, Nat.lt_of_lt_of_le hlt hw.size, fun i hi => hw.cell hb (hrow i hi)⟩

theorem WholeV.wr {T : Nat → Prop} {w w' : World} {x : Value} {z : Int} (h : WholeV w x z) (hw : Wr T w w') (ht : ∀ k, T k → NoDig w k) : WholeV w' x z := by
  obtain ⟨b, v, h1, h2, h3⟩ := h
  exact ⟨b, v, h1, h2.wr hw ht, h3⟩

/-- At the cells o, o + 1 of block b lies a whole number. -/
def WholeAt (w : World) (b o : Nat) (z : Int) : Prop :=
  ∃ x ao l c, w.cell? ⟨b, o, none⟩ = some (.bool x) ∧ w.cell? ⟨b, o + 1, none⟩ = some (.slice ao l c) ∧ WholeV w (.agg #[.bool x, .slice ao l c]) z ∧ w.frozen? ⟨b, o, none⟩ = false ∧ w.frozen? ⟨b, o + 1, none⟩ = false

theorem WholeAt.keep {B : Nat} {w w' : World} {b o : Nat} {z : Int} (h : WholeAt w b o z) (hk : Keep B w w') : WholeAt w' b o z := by
  obtain ⟨x, ao, l, c, h1, h2, h3, h4, h5⟩ := h
  exact ⟨x, ao, l, c, hk.cell h1, hk.cell h2, h3.keep hk, (hk.frozen h1).trans h4, (hk.frozen h2).trans h5⟩

theorem WholeAt.below {w w' : World} {b o : Nat} {z : Int} (h : WholeAt w b o z) (hb : Below w.heap.size w w') : WholeAt w' b o z := h.keep (B := 0) (Keep.of_below hb)

theorem WholeAt.lt {w : World} {b o : Nat} {z : Int} (h : WholeAt w b o z) : b < w.heap.size := by
  obtain ⟨x, ao, l, c, h1, _⟩ := h
  exact block_lt_of_cell h1

/-- Two cells are written with another whole number: that lies there, and the others lie as they lay. -/
theorem WholeAt.put {w : World} {b o : Nat} {z z' : Int} {x : Bool} {ao : Option Addr} {l c : Nat} (h : WholeAt w b o z) (hn : NoDig w b) (hv : WholeV w (.agg #[.bool x, .slice ao l c]) z') :
    WholeAt ((w.setCell ⟨b, o, none⟩ (.bool x)).setCell ⟨b, o + 1, none⟩ (.slice ao l c)) b o z' := by
  obtain ⟨y, a1, l1, c1, h1, h2, h3, h4, h5⟩ := h
  have e1 : (w.setCell ⟨b, o, none⟩ (.bool x)).cell? ⟨b, o + 1, none⟩ = some (.slice a1 l1 c1) := by
    rw [World.cell?_setCell_other _ _ _ _ (by intro e; injection e with _ e2; omega)]; exact h2
  refine ⟨x, ao, l, c, ?_, World.cell?_setCell_same _ _ _ e1, ?_, by simpa using h4, by simpa using h5⟩
  · rw [World.cell?_setCell_other _ _ _ _ (by intro e; injection e with _ e2; omega)]
    exact World.cell?_setCell_same _ _ _ h1
  · exact hv.wr (T := fun k => k = b) (((Wr.refl (fun k => k = b) w).setCell (p := ⟨b, o, none⟩) rfl _).setCell (p := ⟨b, o + 1, none⟩) rfl _) (fun k e => e ▸ hn)

theorem WholeAt.other {w : World} {b o p : Nat} {z : Int} {x : Bool} {v : Value} (h : WholeAt w b p z) (hn : NoDig w b) (hp : p + 1 < o ∨ o + 1 < p) :
    WholeAt ((w.setCell ⟨b, o, none⟩ (.bool x)).setCell ⟨b, o + 1, none⟩ v) b p z := by
  obtain ⟨y, a1, l1, c1, h1, h2, h3, h4, h5⟩ := h
  refine ⟨y, a1, l1, c1, ?_, ?_, ?_, by simpa using h4, by simpa using h5⟩
  · rw [World.cell?_setCell_other _ _ _ _ (by intro e; injection e with _ e2; omega), World.cell?_setCell_other _ _ _ _ (by intro e; injection e with _ e2; omega)]
    exact h1
  · rw [World.cell?_setCell_other _ _ _ _ (by intro e; injection e with _ e2; omega), World.cell?_setCell_other _ _ _ _ (by intro e; injection e with _ e2; omega)]
    exact h2
  · exact h3.wr (T := fun k => k = b) (((Wr.refl (fun k => k = b) w).setCell (p := ⟨b, o, none⟩) rfl _).setCell (p := ⟨b, o + 1, none⟩) rfl _) (fun k e => e ▸ hn)
end Go.Proofs.YtnhfdcfnojnofaaGreatDoor

/-
  Numbers read: fraction.Parse, of any text.
-/
namespace Go.Proofs.YtnhfdcfnojnofaaGreatDoor
open Go.RowKit

set_option maxRecDepth 100000 in
set_option maxHeartbeats 1000000 in
theorem natParse2_no (s : ByteArray) (m : Nat) (w : World) (hm : m ≤ 1099511627776) (hs : s.size ≤ 9223372036854775807) (h : s.data.toList = [] ∨ m < s.size ∨ allDig s.data.toList = false) :
    Calls Tryz.prog 76 #[.string s, .int .i64 (m : Nat)] w fun e w' => e = .returned (.tuple #[.slice none 0 0, .bool false]) ∧ w' = w := by
  by_cases h2 : m < s.size
  · have h3 : (m : Int) < (s.size : Int) := by omega
    have h1 : ((s.size : Int) == 0) = false := beq_eq_false_iff_ne.2 (by omega)
    clear h
    go_enter Tryz.func76, Tryz.ntmps76
    go_wp2
    go_ret2
    exact ⟨rfl, rfl⟩
  · exact natParse_no s m w hm (by omega) h

set_option maxRecDepth 100000 in
set_option maxHeartbeats 1000000 in
theorem wholeParse_no (s : ByteArray) (m : Nat) (w : World) (hm : m ≤ 1000000000) (hs : s.size ≤ 9223372036854775807) (h : T.okD (Lib.trimPrefix s.data.toList [45]) m = false) :
    Calls Tryz.prog 74 #[.string s, .int .i64 (m : Nat)] w fun e w' => ∃ b ao l cap, e = .returned (.tuple #[.agg #[.bool b, .slice ao l cap], .bool false]) ∧ Below w.heap.size w w' := by
  have hbox : Box2 (w.alloc (.cells #[.bool false, .slice none 0 0] 101)) w.heap.size (.bool false) (.slice none 0 0) := Box2.new _ _ _ _
  have hbW : Below w.heap.size w (w.alloc (.cells #[.bool false, .slice none 0 0] 101)) := (Below.refl _ _).alloc (Nat.le_refl _) _
  have hcp := Tryz.strings_CutPrefix s ⟨#[45]⟩ (w.alloc (.cells #[.bool false, .slice none 0 0] 101))
  have e45 : (ByteArray.mk #[45]).data.toList = [45] := rfl
  rw [e45] at hcp
  have hdl : (Lib.trimPrefix s.data.toList [45]).length ≤ s.size := by
    rw [← toList_len s, Lib.trimPrefix]
    split
    · simp
    · exact Nat.le_refl _
  generalize Lib.trimPrefix s.data.toList [45] = d at *
  generalize Lib.hasPrefix s.data.toList [45] = neg at *
  have hno : (ByteArray.mk d.toArray).data.toList = [] ∨ m < (ByteArray.mk d.toArray).size ∨ allDig (ByteArray.mk d.toArray).data.toList = false := by
    have e : (ByteArray.mk d.toArray).data.toList = d := by simp
    rw [e, size_mk]
    unfold T.okD at h
    by_cases h1 : d = []
    · exact Or.inl h1
    · by_cases h2 : d.length ≤ m
      · rw [decide_eq_true h1, decide_eq_true h2, Bool.true_and, Bool.true_and] at h
        exact Or.inr (Or.inr h)
      · exact Or.inr (Or.inl (by omega))
  have HNP := hide (fun W => natParse2_no ⟨d.toArray⟩ m W (by omega) (by rw [size_mk]; omega) hno)
  have HCP := hide hcp
  clear hcp e45 hno h
  go_enter Tryz.func74, Tryz.ntmps74
  go_wp2_with fail
  refine HCP.out.mono ?_
  rintro e w1 ⟨rfl, rfl⟩
  go_wp2_with fail
  refine (HNP.out _).mono ?_
  rintro e w2 ⟨rfl, rfl⟩
  go_wp2_with fail
  refine (signed_any _ _ _ _ (NatV.zero _ _ _)).mono ?_
  rintro e w3 ⟨x, rfl, hx, hbx⟩
  obtain ⟨b2, a2, l2, k2, rfl, hv2, hb2⟩ := hx.parts
  have hboxB := hbox.below hbx
  have hbB : Below w.heap.size w w3 := hbW.trans (hbx.mono hbW.size)
  obtain ⟨c0, c1, f0, f1, g0⟩ := hboxB
  clear hbx hbox
  go_wp2
  exact bodyPost_ret (v := .tuple #[.agg #[.bool b2, .slice a2 l2 k2], .bool false]) (by simp [results, Tryz.results74, go_sem, c0, c1]) rfl ⟨b2, a2, l2, k2, rfl, (hbB.setCell (by simp) _).setCell (by simp) _⟩

end Go.Proofs.YtnhfdcfnojnofaaGreatDoor

/-
  Numbers read: fraction.Parse, of any text: yes or no.
-/
namespace Go.Proofs.YtnhfdcfnojnofaaGreatDoor
open Go.RowKit

theorem okD_parts {l : List UInt8} {m : Nat} (h : T.okD l m = true) : 0 < l.length ∧ l.length ≤ m ∧ allDig l = true := by
  unfold T.okD at h
  simp only [Bool.and_eq_true, decide_eq_true_eq] at h
  exact ⟨List.length_pos_iff.2 h.1, h.2.1, h.2.2⟩

theorem Box3.same {w : World} {g : Nat} (h : Box3 w g (.bool false) (.slice none 0 0) (.slice none 0 0)) : Box3 (((w.setCell ⟨g, 0, none⟩ (.bool false)).setCell ⟨g, 1, none⟩ (.slice none 0 0)).setCell ⟨g, 2, none⟩ (.slice none 0 0)) g (.bool false) (.slice none 0 0) (.slice none 0 0) := T.Box3.stored h

end Go.Proofs.YtnhfdcfnojnofaaGreatDoor
