/-
  Part 17 of the texts ahead of Pls1: Ts4, Ts5, Ts6, Prb2, Txt12, Txt13, Plc2.
-/
import Derived.Test.YtnhfdcfnojnofaaGreatDoorPls1Z16
import Derived.Test.YtnhfdcfnojnofaaGreatDoorPls1Z2
import Derived.Test.YtnhfdcfnojnofaaGreatDoorPls1Z12
import Derived.Test.YtnhfdcfnojnofaaGreatDoorPls1Z13
import Derived.Lib.IndexLaws
import Derived.Test.YtnhfdcfnojnofaaGreatDoorPls1Z15
import Derived.Test.YtnhfdcfnojnofaaGreatDoorPls1Z3
import Derived.Test.YtnhfdcfnojnofaaGreatDoorPls1Z9
set_option linter.unusedSimpArgs false
set_option linter.unusedVariables false
/-
  What the document's own wholes does (package planesref).
-/
namespace Go.Proofs.YtnhfdcfnojnofaaGreatDoor.T
open Go.RowKit

theorem Sv.shape {w : World} {v : Value} {ls : List ByteArray} (h : Sv w v ls) : ∃ ao cap, v = .slice ao ls.length cap := by
  rcases h with ⟨rfl, rfl⟩ | ⟨g, off, cap, rfl, _⟩
  · exact ⟨none, 0, rfl⟩
  · exact ⟨_, _, rfl⟩

theorem Sv.row {w : World} {ao : Option Addr} {l cap : Nat} {ls : List ByteArray} (h : Sv w (.slice ao l cap) ls) (hne : ls ≠ []) : ∃ g off, ao = some ⟨g, off, none⟩ ∧ g < w.heap.size ∧ ∀ i, i < ls.length → w.cell? ⟨g, off + i, none⟩ = some (.string (ls.getD i ⟨#[]⟩)) := by
  rcases h with ⟨h, rfl⟩ | ⟨g, off, cap', h1, h2, h3, h4⟩
  · exact absurd rfl hne
  · simp only [Value.slice.injEq] at h1
    obtain ⟨rfl, _, _⟩ := h1
    exact ⟨g, off, rfl, h3, h4⟩

theorem all_take {α : Type} {f : α → Bool} {l : List α} (i : Nat) (d : α) (h : i < l.length) : (l.take (i + 1)).all f = ((l.take i).all f && f (l.getD i d)) := by
  rw [List.take_succ_eq_append_getElem h, List.all_append, List.getD_eq_getElem?_getD, List.getElem?_eq_getElem h]
  simp

theorem all_false {α : Type} {f : α → Bool} {l : List α} (i : Nat) (d : α) (h : i < l.length) (hf : f (l.getD i d) = false) : l.all f = false := by
  rw [List.all_eq_false]
  refine ⟨l[i], List.getElem_mem h, ?_⟩
  rw [List.getD_eq_getElem?_getD, List.getElem?_eq_getElem h] at hf
  simpa using hf

theorem owns_below {w w' : World} {base e size n : Nat} {v : Value} {xs : List Value} (h : w.ownsRow base e size v n xs) (hb : Below w.heap.size w w') : w'.ownsRow base e size v n xs := by
  refine h.kept (row := none) ⟨hb.os, hb.tape, hb.output, hb.size, fun k hk _ => hb.block k hk⟩ ?_
  by_cases h0 : v.ownBlock = none
  · exact Or.inl h0
  · exact Or.inr h0

theorem NV.grown {w w' : World} {row : Option Nat} {v : Value} {n : Nat} (h : NV w v n) (hg : w.grownBy w' row) (hr : ∀ g, row = some g → ¬ Kind w g) : NV w' v n := by
  obtain ⟨ds, hs, h2⟩ := h
  refine ⟨ds, ?_, h2⟩
  rcases hs with hs | ⟨g, off, cap, hv, hc, hb, hrow, hk⟩
  · exact Or.inl hs
  · have hblk : w'.heap[g]? = w.heap[g]? := hg.block g hb (fun e => hr g e.symm hk)
    have hsz := hg.size
    refine Or.inr ⟨g, off, cap, hv, hc, by omega, fun i hi => (World.cell?_of_block (w := w) hblk).trans (hrow i hi), ?_⟩
    obtain ⟨c, fr, hk⟩ := hk
    exact ⟨c, fr, hblk.trans hk⟩

theorem NumV.grown {w w' : World} {row : Option Nat} {x : Value} {p : Int} {q : Nat} (h : NumV w x p q) (hg : w.grownBy w' row) (hr : ∀ g, row = some g → ¬ Kind w g) : NumV w' x p q := by
  obtain ⟨b, v, u, h1, h2, h3, h4, h5⟩ := h
  exact ⟨b, v, u, h1, h2.grown hg hr, h3, h4.grown hg hr, h5⟩

theorem other_kind {w : World} {base e size n : Nat} {v : Value} {xs : List Value} (h : w.ownsRow base e size v n xs) (he : e ≠ 3) : ∀ g, v.ownBlock = some g → ¬ Kind w g := by
  intro g hg hk
  obtain ⟨c, fr, hk⟩ := hk
  obtain ⟨_, h1 | ⟨g', cap, cur, hv, _, hh, _⟩⟩ := h
  · rw [h1.1] at hg; simp [Value.ownBlock] at hg
  · rw [hv] at hg
    simp [Value.ownBlock] at hg
    subst hg
    rw [hh] at hk
    simp only [Option.some.injEq, Obj.cells.injEq] at hk
    exact he hk.2.1

set_option maxHeartbeats 2000000 in
set_option maxRecDepth 100000 in
theorem wholes_any (w : World) (v : Value) (ls : List ByteArray) (hv : Sv w v ls) (hsz : ∀ l ∈ ls, l.size ≤ 1000000000) (hn : ls.length ≤ 1000000) :
    Calls Tryz.prog 200 #[v] w fun e w' => ∃ x, e = .returned (.tuple #[x, .bool (ls.all fun l => wOk l.data.toList)]) ∧ ((ls.all fun l => wOk l.data.toList) = true → Nums w' x (ls.map fun l => (wZ l.data.toList, 1)) ∧ ∀ g, x.ownBlock = some g → w.heap.size ≤ g) ∧ ((ls.all fun l => wOk l.data.toList) = false → x = .slice none 0 0) ∧ Below w.heap.size w w' := by
  obtain ⟨i0, hi, hz0, hz1, hz2⟩ := info_parts Tryz.infoNum
  obtain ⟨ao, cap, rfl⟩ := hv.shape
  obtain ⟨all, hall⟩ : ∃ all, (ls.all fun l => wOk l.data.toList) = all := ⟨_, rfl⟩
  have HALL := hide hall
  rw [hall]
  clear hall
  have HSZ := hide hsz
  clear hsz
  go_enter Tryz.func200, Tryz.ntmps200
  go_wp2
  go_loopw [4, 5] (fun lv iv wr => ∃ (ts : List Tri) (ap : Option Addr) (kp : Nat), lv = .slice ap ts.length kp ∧ iv = .int .i64 (ts.length : Nat) ∧ ts.length ≤ ls.length ∧ wr.ownsRow w.heap.size 118 3 (.slice ap ts.length kp) ts.length (triCells ts) ∧
      Hid (∀ (i : Nat) (t : Tri), ts[i]? = some t → NumV wr t.val (wZ (ls.getD i ⟨#[]⟩).data.toList) 1) ∧ Hid (((ls.take ts.length).all fun l => wOk l.data.toList) = true) ∧ Below w.heap.size w wr) (fun _ iv _ => ((ls.length : Int) - intOf iv).toNat)
  case atStart => exact ⟨[], none, 0, rfl, rfl, by simp, World.ownsRow_nil _ _ _ _, by rw [Hid]; intro i t h; simp at h, rfl, Below.refl _ _⟩
  case round =>
    obtain ⟨ts, ap, kp, rfl, rfl, htl, hown, hnum, hok, hbel⟩ := hrel
    by_cases hk : ts.length < ls.length
    · obtain ⟨g, off, rfl, hg, hrow⟩ := hv.row (by intro e; rw [e] at hk; simp at hk)
      have hck := (hbel.cell (p := ⟨g, off + ts.length, none⟩) hg).trans (hrow ts.length hk)
      have hs1 : (ls.getD ts.length ⟨#[]⟩).size ≤ 1000000000 := by
        rw [List.getD_eq_getElem?_getD, List.getElem?_eq_getElem hk]
        exact HSZ.out _ (List.getElem_mem hk)
      have HAT := hide (all_take (f := fun l : ByteArray => wOk l.data.toList) ts.length ⟨#[]⟩ hk)
      have HAF := hide (fun h => all_false (f := fun l : ByteArray => wOk l.data.toList) ts.length ⟨#[]⟩ hk h)
      obtain ⟨s, hs⟩ : ∃ s, ls.getD ts.length ⟨#[]⟩ = s := ⟨_, rfl⟩
      rw [hs] at hck hs1 HAT HAF
      have HS := hide hs
      clear hs
      have HRW := hide (fun W => readWhole_any s W (by omega))
      by_cases hw : wOk s.data.toList = true
      · have hrw := HRW.out
        simp only [hw, forall_const] at hrw
        have HRW2 := hide hrw
        have HOK : Hid (((ls.take (ts.length + 1)).all fun l => wOk l.data.toList) = true) := by rw [Hid, HAT.out, hok.out, hw]; rfl
        clear hrw HRW HAF HAT hok hw
        go_wp2_with fail
        refine (HRW2.out _).mono ?_
        rintro e w1 ⟨b, ua, ul, uc, da, dl, dc, rfl, hx, hb1⟩
        obtain ⟨x, hxe⟩ : ∃ x : Tri, x = ⟨b, (ua, ul, uc), (da, dl, dc)⟩ := ⟨_, rfl⟩
        have hown2 := (owns_below hown hb1).alloc (.cells #[.bool b, .slice ua ul uc, .slice da dl dc] 118)
        have hbel1 := hbel.trans (hb1.mono hbel.size)
        have hbel2 := hbel1.alloc hbel1.size (.cells #[.bool b, .slice ua ul uc, .slice da dl dc] 118)
        have hx2 := hx.alloc (.cells #[.bool b, .slice ua ul uc, .slice da dl dc] 118)
        have HN2 : Hid (∀ (i : Nat) (t : Tri), ts[i]? = some t → NumV (w1.alloc (.cells #[.bool b, .slice ua ul uc, .slice da dl dc] 118)) t.val (wZ (ls.getD i ⟨#[]⟩).data.toList) 1) := fun i t h => ((hnum.out i t h).below hb1).alloc _
        have hnews : ∀ (j : Nat) (u : Value), x.cells[j]? = some u → ((w1.alloc (.cells #[.bool b, .slice ua ul uc, .slice da dl dc] 118)).alloc (.cells #[.bool b, .slice ua ul uc, .slice da dl dc] 118)).cell? ((⟨w1.heap.size + 1, 0, none⟩ : Addr).add j) = some u := by
          have h1 := cell_tri_new (w1.alloc (.cells #[.bool b, .slice ua ul uc, .slice da dl dc] 118)) x 118
          subst hxe
          simpa [Tri.up, Tri.down] using h1
        have hlen3 : x.cells.length = 1 * 3 := by rw [hxe]; rfl
        have HNEWS := hide hnews
        have HXE := hide hxe
        clear hnews hxe hnum hown hbel hbel1 hx hb1
        go_wp2_with (at_builtin; refine wpList_append_own _ rfl _ _ 200 rfl w.heap.size 118 i0 (.agg #[.bool false, .slice none 0 0, .slice none 0 0]) 3 56 Tryz.underlying200 hi hz0 hz1 hz2 rfl (by decide) (.slice ap ts.length kp) ts.length (triCells ts) rfl (hown2.alloc _) ⟨w1.heap.size + 1, 0, none⟩ 1 1 x.cells rfl hlen3 HNEWS.out (tri_one x) (by unfold maxLen; omega) (by omega) (by have := hbel2.size; simp at this ⊢; omega) ?_)
        intro v3 w3 hown3 hgrow hnn
        have hrr := other_kind (hown2.alloc (.cells #[.bool b, .slice ua ul uc, .slice da dl dc] 118)) (by decide)
        have HN3 : Hid (∀ (i : Nat) (t : Tri), (ts ++ [x])[i]? = some t → NumV w3 t.val (wZ (ls.getD i ⟨#[]⟩).data.toList) 1) := by
          intro i t ht
          by_cases hit : i < ts.length
          · rw [List.getElem?_append_left hit] at ht
            exact ((HN2.out i t ht).alloc _).grown hgrow hrr
          · have hie : i = ts.length := by
              have := (List.getElem?_eq_some_iff.1 ht).1
              simp at this
              omega
            subst hie
            rw [List.getElem?_append_right (Nat.le_refl _), Nat.sub_self] at ht
            have hxt : x = t := by simpa using ht
            rw [HS.out, ← hxt, HXE.out]
            exact (hx2.alloc _).grown hgrow hrr
        obtain ⟨ts', hts', htl', cap3, g3, rfl, hown4, hb3⟩ := grown_tri hown2 hbel2 hown3 hgrow hnn
        rw [← hts'] at HN3
        clear hgrow hnn hown3 hrr HNEWS
        go_wp2
        go_roundw
        case rel => exact ⟨ts', _, cap3, rfl, by rw [htl']; go_num, by omega, hown4, HN3, by rw [htl']; exact HOK, hb3⟩
        case measure => simp [intOf]; omega
      · have hwf : wOk s.data.toList = false := by simpa using hw
        have HAL : Hid (all = false) := by rw [Hid, ← HALL.out]; exact HAF.out hwf
        have hrw := HRW.out
        simp only [hwf] at hrw
        have HRW2 := hide hrw
        clear hrw HRW HAF HAT hok hw hwf hnum
        go_wp2_with fail
        refine (HRW2.out _).mono ?_
        rintro e w1 ⟨b, ua, ul, uc, da, dl, dc, rfl, _, hb1⟩
        have hbel1 := hbel.trans (hb1.mono hbel.size)
        go_wp2
        go_ret2
        exact ⟨_, by rw [HAL.out]; rfl, fun h => absurd (HAL.out.symm.trans h) (by decide), fun _ => rfl, hbel1.alloc hbel1.size _⟩
    · have HLE : Hid (ts.length = ls.length) := by rw [Hid]; omega
      have HAL : Hid (all = true) := by
        have := hok.out
        rw [HLE.out, List.take_of_length_le (Nat.le_refl _)] at this
        rw [Hid, ← HALL.out]
        exact this
      have hnums : Nums wr (.slice ap ts.length kp) (ls.map fun l => (wZ l.data.toList, 1)) := by
        refine nums_of_owns hown (by simp [HLE.out]) ?_
        intro i t z ht hz
        have hi : i < ls.length := by
          have := (List.getElem?_eq_some_iff.1 ht).1
          have := HLE.out
          omega
        rw [List.getElem?_map, List.getElem?_eq_getElem hi] at hz
        simp only [Option.map_some, Option.some.injEq] at hz
        subst hz
        have h1 := hnum.out i t ht
        rw [List.getD_eq_getElem?_getD, List.getElem?_eq_getElem hi] at h1
        exact h1
      have HNUMS := hide hnums
      have HFR : Hid (∀ g, (Value.slice ap ts.length kp).ownBlock = some g → w.heap.size ≤ g) := fun g hg => (hown.lt g hg).1
      clear hnums hok hnum
      go_wp2
      go_ret2
      exact ⟨_, by rw [HAL.out]; rfl, fun _ => ⟨HNUMS.out, HFR.out⟩, fun h => absurd (HAL.out.symm.trans h) (by decide), hbel⟩
end Go.Proofs.YtnhfdcfnojnofaaGreatDoor.T

/-
  What the document's own told does (package planesref).
-/
namespace Go.Proofs.YtnhfdcfnojnofaaGreatDoor.T
open Go.RowKit

/-- Numbers, each with a blank ahead. -/
def toldL (zs : List (Int × Nat)) : List UInt8 := zs.flatMap fun z => 32 :: fracText z.1 z.2

theorem dec_len4 {n K : Nat} (h : n < 10000 ^ K) : (Lib.decDigits n).length ≤ 4 * K + 1 :=
  dec_len_le (4 * K + 1) _ (by rw [pow4] at h; exact Nat.lt_of_lt_of_le h (Nat.pow_le_pow_right (by omega) (by omega))) (by omega)

theorem frac_len {p : Int} {q K : Nat} (hp : p.natAbs < 10000 ^ K) (hq : q < 10000 ^ K) : (fracText p q).length ≤ 8 * K + 4 := by
  have h1 := dec_len4 hp
  have h2 := dec_len4 hq
  have h3 : (Lib.itoa p).length ≤ 4 * K + 2 := by
    unfold Lib.itoa
    split
    · simp; omega
    · rw [show p.toNat = p.natAbs by omega]; omega
  unfold fracText
  split
  · omega
  · simp; omega

theorem told_take (zs : List (Int × Nat)) (i : Nat) (h : i < zs.length) : toldL (zs.take (i + 1)) = toldL (zs.take i) ++ ([32] ++ fracText (zs[i]).1 (zs[i]).2) := by
  rw [List.take_succ_eq_append_getElem h]
  unfold toldL
  rw [List.flatMap_append]
  simp only [List.flatMap_cons, List.flatMap_nil, List.append_nil]
  rfl

set_option maxHeartbeats 2000000 in
set_option maxRecDepth 100000 in
theorem told_any (w : World) (v : Value) (zs : List (Int × Nat)) (K : Nat) (hK : K ≤ 100) (hv : Nums w v zs) (hbd : ∀ z ∈ zs, z.1.natAbs < 10000 ^ K ∧ z.2 < 10000 ^ K) (hn : zs.length ≤ 100000) :
    Calls Tryz.prog 108 #[v] w fun e w' => e = .returned (.string ⟨(toldL zs).toArray⟩) ∧ Below w.heap.size w w' := by
  obtain ⟨ts, hl, hnum, hr⟩ := hv
  obtain ⟨ao, cap, rfl⟩ : ∃ ao cap, v = .slice ao ts.length cap := by
    rcases hr with ⟨rfl, rfl⟩ | ⟨g, off, cap, rfl, _⟩
    · exact ⟨none, 0, rfl⟩
    · exact ⟨_, _, rfl⟩
  have HBD := hide hbd
  have HNUM := hide hnum
  have hnt : ts.length ≤ 100000 := by omega
  have HL := hide hl
  clear hbd hnum hl
  go_enter Tryz.func108, Tryz.ntmps108
  go_wp2
  go_loopw [3, 4] (fun sv iv wr => ∃ (i : Nat) (cur : ByteArray), i ≤ ts.length ∧ sv = .string cur ∧ iv = .int .i64 (i : Nat) ∧ cur.size ≤ i * 1000 ∧ Hid (cur = ⟨(toldL (zs.take i)).toArray⟩) ∧ Below w.heap.size w wr) (fun _ iv _ => ((ts.length : Int) - intOf iv).toNat)
  case atStart => exact ⟨0, ⟨#[]⟩, by omega, rfl, rfl, Nat.zero_le _, rfl, Below.refl _ _⟩
  case round =>
    obtain ⟨i, cur, hil, rfl, rfl, hcz, HC, hbel⟩ := hrel
    by_cases hin : i < ts.length
    · have hiz : i < zs.length := by have := HL.out; omega
      have hti : ts[i]? = some ts[i] := List.getElem?_eq_getElem hin
      have hzi : zs[i]? = some zs[i] := List.getElem?_eq_getElem hiz
      have hx := (HNUM.out i _ _ hti hzi).below hbel
      have hb := HBD.out _ (List.getElem_mem hiz)
      have HTK := hide (told_take zs i hiz)
      have hfl := frac_len hb.1 hb.2
      obtain ⟨tB, htB⟩ : ∃ tB, tB = ByteArray.mk (fracText (zs[i]).1 (zs[i]).2).toArray := ⟨_, rfl⟩
      have hsz : tB.size ≤ 8 * K + 4 := by rw [htB, size_mk]; exact hfl
      have HTB := hide htB
      have HST : Hid (cur ++ ⟨#[32]⟩ ++ tB = ⟨(toldL (zs.take (i + 1))).toArray⟩) := by
        have e : (⟨#[32]⟩ : ByteArray) = ⟨([32] : List UInt8).toArray⟩ := rfl
        rw [Hid, HC.out, htB, HTK.out, e, ba_append, ba_append, List.append_assoc]
      have hszT : (cur ++ ⟨#[32]⟩ ++ tB).size ≤ (i + 1) * 1000 := by
        rw [ByteArray.size_append, ByteArray.size_append, show (ByteArray.mk #[32]).size = 1 from rfl]
        omega
      rcases hr with ⟨_, rfl⟩ | ⟨g, off, cap', h1, h2, h3, h4⟩
      · simp at hin
      · simp only [Value.slice.injEq] at h1
        obtain ⟨rfl, _, rfl⟩ := h1
        obtain ⟨c0, c1, c2⟩ := h4 i _ hti
        have c0' := (hbel.cell (p := ⟨g, off + i * 3, none⟩) h3).trans c0
        have c1' := (hbel.cell (p := ⟨g, off + i * 3 + 1, none⟩) h3).trans c1
        have c2' := (hbel.cell (p := ⟨g, off + i * 3 + 2, none⟩) h3).trans c2
        have hKK : K ≤ 1000 := by omega
        have HTX := hide (fun (W : World) (hW : NumV W ts[i].val (zs[i]).1 (zs[i]).2) => text_any K hKK W ts[i].val (zs[i]).1 (zs[i]).2 hW hb.1 hb.2)
        generalize ts[i] = t at *
        unfold Tri.val at HTX hx
        unfold Tri.up at c1' HTX hx
        unfold Tri.down at c2' HTX hx
        clear c0 c1 c2 htB hfl hb hti hzi
        go_wp2_with fail
        refine (HTX.out _ hx).mono ?_
        rintro e w1 ⟨rfl, hb1⟩
        rw [← HTB.out]
        have hbel1 := hbel.trans (hb1.mono hbel.size)
        clear hb1 hx c0' c1' c2'
        go_wp2
        go_roundw
        case rel => exact ⟨i + 1, _, by omega, rfl, by go_num, hszT, HST, hbel1⟩
        case measure => simp [intOf]; omega
    · obtain rfl : i = ts.length := by omega
      have HF : Hid (cur = ⟨(toldL zs).toArray⟩) := by
        have := HC.out
        rw [List.take_of_length_le (by have := HL.out; omega)] at this
        exact this
      clear HC
      go_wp2
      go_ret
      exact ⟨by rw [← HF.out]; rfl, hbel⟩
end Go.Proofs.YtnhfdcfnojnofaaGreatDoor.T

/-
  What the document's own vars does (package planesref).
-/
namespace Go.Proofs.YtnhfdcfnojnofaaGreatDoor.T
open Go.RowKit

/-- A byte as a count of variables; 0: it is none. -/
def varB (c : UInt8) : Nat := if 49 ≤ c.toNat ∧ c.toNat ≤ 52 then c.toNat - 48 else 0

/-- How many variables the first line's words say; 0: it can't stand there. -/
def varsN (ls : List (List UInt8)) : Nat := if ls.length = 2 ∧ ls.getD 0 [] = [118, 97, 114, 115] ∧ (ls.getD 1 []).length = 1 then varB ((ls.getD 1 []).getD 0 0) else 0

theorem varB_le (c : UInt8) : varB c ≤ 4 := by
  unfold varB
  split <;> omega

set_option maxHeartbeats 1000000 in
set_option maxRecDepth 100000 in
theorem vars_any (w : World) (v : Value) (ls : List ByteArray) (hv : Sv w v ls) (hn : ls.length ≤ 1000000) (hsz : ∀ l ∈ ls, l.size ≤ 1000000000) :
    Calls Tryz.prog 199 #[v] w fun e w' => e = .returned (.int .i64 (varsN (ls.map fun l => l.data.toList) : Nat)) ∧ w' = w := by
  obtain ⟨ao, cap, rfl⟩ := hv.shape
  by_cases h2 : ls.length = 2
  · obtain ⟨a, b, rfl⟩ : ∃ a b, ls = [a, b] := by
      match ls, h2 with
      | [a, b], _ => exact ⟨a, b, rfl⟩
    obtain ⟨g, off, rfl, hg, hrow⟩ := hv.row (by simp)
    have c0 : w.cell? ⟨g, off, none⟩ = some (.string a) := hrow 0 (by simp)
    have c1 : w.cell? ⟨g, off + 1, none⟩ = some (.string b) := hrow 1 (by simp)
    have hbz := hsz b (by simp)
    clear hrow hsz hv hn h2
    simp only [List.map_cons, List.map_nil, List.length_cons, List.length_nil]
    by_cases ha : (a.toList == [118, 97, 114, 115]) = true
    · have ha' : a.data.toList = [118, 97, 114, 115] := by rw [← ByteArray.toList_eq]; simpa using ha
      by_cases hb : b.size = 1
      · obtain ⟨c, hc⟩ : ∃ c, b.data.toList = [c] := List.length_eq_one_iff.1 (by rw [toList_len]; exact hb)
        have hb0 : 0 < b.size := by omega
        have hbc : b[0] = c := first_of (l := []) (ba_of hc) hb0
        have HV : Hid (varsN [a.data.toList, b.data.toList] = varB c) := by
          rw [Hid, varsN, hc, ha', if_pos ⟨rfl, rfl, rfl⟩]
          rfl
        have hcb : c.toNat < 256 := c.toNat_lt
        have hbi : (b.size : Int) = 1 := by omega
        have hb0c : b[0].toNat = c.toNat := by rw [hbc]
        clear ha' hc hbc
        by_cases hlo : c.toNat < 49
        · have HB : Hid (varB c = 0) := by rw [Hid, varB, if_neg (by omega)]
          go_enter Tryz.func199, Tryz.ntmps199
          go_wp2
          go_ret
          exact ⟨by rw [HV.out, HB.out]; rfl, rfl⟩
        · by_cases hhi : 52 < c.toNat
          · have HB : Hid (varB c = 0) := by rw [Hid, varB, if_neg (by omega)]
            go_enter Tryz.func199, Tryz.ntmps199
            go_wp2
            go_ret
            exact ⟨by rw [HV.out, HB.out]; rfl, rfl⟩
          · have HB : Hid ((c.toNat : Int) - 48 = (varB c : Nat)) := by rw [Hid, varB, if_pos (by omega)]; omega
            go_enter Tryz.func199, Tryz.ntmps199
            go_wp2
            go_ret
            exact ⟨ret_int (by rw [HV.out, ← HB.out]), rfl⟩
      · have HV : Hid (varsN [a.data.toList, b.data.toList] = 0) := by
          rw [Hid, varsN, if_neg]
          rintro ⟨_, _, h3⟩
          exact hb (by rw [← toList_len b]; exact h3)
        have hbi : (b.size : Int) ≠ 1 := by omega
        clear ha'
        go_enter Tryz.func199, Tryz.ntmps199
        go_wp2
        go_ret
        exact ⟨by rw [HV.out]; rfl, rfl⟩
    · have HV : Hid (varsN [a.data.toList, b.data.toList] = 0) := by
        rw [Hid, varsN, if_neg]
        rintro ⟨_, h2, _⟩
        have h3 : a.data.toList = [118, 97, 114, 115] := h2
        exact ha (by rw [ByteArray.toList_eq, h3]; rfl)
      have ha' : (a.toList == [118, 97, 114, 115]) = false := by simpa using ha
      clear ha
      go_enter Tryz.func199, Tryz.ntmps199
      go_wp2
      go_ret
      exact ⟨by rw [HV.out]; rfl, rfl⟩
  · have HV : Hid (varsN (ls.map fun l => l.data.toList) = 0) := by
      rw [Hid, varsN, if_neg]
      rintro ⟨h1, _⟩
      exact h2 (by simpa using h1)
    have h2i : (ls.length : Int) ≠ 2 := by omega
    go_enter Tryz.func199, Tryz.ntmps199
    go_wp2
    go_ret
    exact ⟨by rw [HV.out]; rfl, rfl⟩
end Go.Proofs.YtnhfdcfnojnofaaGreatDoor.T

/-
  Problems, as the document reads and writes them: what Plain answers, as a function of the text.
-/
namespace Go.Proofs.YtnhfdcfnojnofaaGreatDoor

/-- A problem as it is read so far. -/
structure Prob where
  n : Nat
  mx : List Int
  rg : List (Int × Int)
  rows : List (List Int × List UInt8 × Int)

def Prob.none : Prob := ⟨0, [], [], []⟩

def wMax : List UInt8 := [109, 97, 120]
def wRange : List UInt8 := [114, 97, 110, 103, 101]
def wRow : List UInt8 := [114, 111, 119]
def wVars : List UInt8 := [118, 97, 114, 115]

/-- Is a word a whole number's text? -/
def dOk (l : List UInt8) : Bool := T.okD (Lib.trimPrefix l [45]) 40

/-- Line i, counted from 0 on, is read into a problem; none: it can't stand there. -/
def takeS (i : Nat) (p : Prob) (ws : List (List UInt8)) : Option Prob :=
  if i = 0 then (if T.varsN ws = 0 then .none else some ⟨T.varsN ws, [], [], []⟩)
  else if i = 1 then (if ws.length = p.n + 1 ∧ ws.getD 0 [] = wMax ∧ (ws.drop 1).all dOk = true then some { p with mx := (ws.drop 1).map T.wZ } else .none)
  else if i ≤ 1 + p.n then (if ws.length = 3 ∧ ws.getD 0 [] = wRange ∧ (ws.drop 1).all dOk = true then some { p with rg := p.rg ++ [(T.wZ (ws.getD 1 []), T.wZ (ws.getD 2 []))] } else .none)
  else (if p.rows.length < 6 ∧ ws.length = p.n + 3 ∧ ws.getD 0 [] = wRow ∧ ((ws.drop 1).take p.n).all dOk = true ∧ isSign (ws.getD (p.n + 1) []) = true ∧ dOk (ws.getD (p.n + 2) []) = true
    then some { p with rows := p.rows ++ [(((ws.drop 1).take p.n).map T.wZ, ws.getD (p.n + 1) [], T.wZ (ws.getD (p.n + 2) []))] } else .none)

/-- The lines from number i on, counted from 0 on; an error: the number, counted from 1 on, of the first that can't stand there. -/
def readS : Nat → Prob → List (List UInt8 × Bool) → Except Nat Prob
  | _, p, [] => .ok p
  | i, p, l :: r => if l.2 = false then .error (i + 1) else match takeS i p (words l.1) with
    | .none => .error (i + 1)
    | some q => readS (i + 1) q r

/-- The first range that is too wide. -/
def wideS : Nat → List (Int × Int) → Option Nat
  | _, [] => .none
  | i, r :: rs => if 7 < r.2 - r.1 then some i else wideS (i + 1) rs

/-- Numbers, each with a blank ahead. -/
def tellS (zs : List Int) : List UInt8 := zs.flatMap fun z => 32 :: Lib.itoa z

def rangeS (r : Int × Int) : List UInt8 := wRange ++ tellS [r.1, r.2] ++ [10]
def rowS (r : List Int × List UInt8 × Int) : List UInt8 := wRow ++ tellS r.1 ++ 32 :: r.2.1 ++ tellS [r.2.2] ++ [10]

/-- The plain form. -/
def textS (p : Prob) : List UInt8 :=
  wVars ++ 32 :: Lib.itoa (p.n : Int) ++ [10] ++ (wMax ++ tellS p.mx ++ [10]) ++ p.rg.flatMap rangeS ++ p.rows.flatMap rowS

/-- What Plain answers: a text, an error, a line. -/
def plainS (s : List UInt8) : List UInt8 × Nat × Nat :=
  if 2000 < s.length then ([], 4, 0)
  else match readS 0 Prob.none (lines s) with
    | .error k => ([], 5, k)
    | .ok p => if (lines s).length < 2 + p.n then ([], 5, (lines s).length + 1) else match wideS 0 p.rg with
      | some i => ([], 6, i + 3)
      | .none => (textS p, 0, 0)
end Go.Proofs.YtnhfdcfnojnofaaGreatDoor

/-
  Numbers read: fraction.Parse, of any text.
-/
namespace Go.Proofs.YtnhfdcfnojnofaaGreatDoor
open Go.RowKit

set_option maxRecDepth 100000 in
set_option maxHeartbeats 1000000 in
theorem natParse2_no (s : ByteArray) (m : Nat) (w : World) (hm : m ≤ 1099511627776) (hs : s.size ≤ 9223372036854775807) (h : s.data.toList = [] ∨ m < s.size ∨ allDig s.data.toList = false) :
    Calls Tryz.prog 76 #[.string s, .int .i64 (m : Nat)] w fun e w' => e = .returned (.tuple #[.slice none 0 0, .bool false]) ∧ w' = w := by
  by_cases h2 : m < s.size
  · have h3 : (m : Int) < (s.size : Int) := by omega
    have h1 : ((s.size : Int) == 0) = false := beq_eq_false_iff_ne.2 (by omega)
    clear h
    go_enter Tryz.func76, Tryz.ntmps76
    go_wp2
    go_ret2
    exact ⟨rfl, rfl⟩
  · exact natParse_no s m w hm (by omega) h

set_option maxRecDepth 100000 in
set_option maxHeartbeats 1000000 in
theorem wholeParse_no (s : ByteArray) (m : Nat) (w : World) (hm : m ≤ 1000000000) (hs : s.size ≤ 9223372036854775807) (h : T.okD (Lib.trimPrefix s.data.toList [45]) m = false) :
    Calls Tryz.prog 74 #[.string s, .int .i64 (m : Nat)] w fun e w' => ∃ b ao l cap, e = .returned (.tuple #[.agg #[.bool b, .slice ao l cap], .bool false]) ∧ Below w.heap.size w w' := by
  have hbox : Box2 (w.alloc (.cells #[.bool false, .slice none 0 0] 101)) w.heap.size (.bool false) (.slice none 0 0) := Box2.new _ _ _ _
  have hbW : Below w.heap.size w (w.alloc (.cells #[.bool false, .slice none 0 0] 101)) := (Below.refl _ _).alloc (Nat.le_refl _) _
  have hcp := Tryz.strings_CutPrefix s ⟨#[45]⟩ (w.alloc (.cells #[.bool false, .slice none 0 0] 101))
  have e45 : (ByteArray.mk #[45]).data.toList = [45] := rfl
  rw [e45] at hcp
  have hdl : (Lib.trimPrefix s.data.toList [45]).length ≤ s.size := by
    rw [← toList_len s, Lib.trimPrefix]
    split
    · simp
    · exact Nat.le_refl _
  generalize Lib.trimPrefix s.data.toList [45] = d at *
  generalize Lib.hasPrefix s.data.toList [45] = neg at *
  have hno : (ByteArray.mk d.toArray).data.toList = [] ∨ m < (ByteArray.mk d.toArray).size ∨ allDig (ByteArray.mk d.toArray).data.toList = false := by
    have e : (ByteArray.mk d.toArray).data.toList = d := by simp
    rw [e, size_mk]
    unfold T.okD at h
    by_cases h1 : d = []
    · exact Or.inl h1
    · by_cases h2 : d.length ≤ m
      · rw [decide_eq_true h1, decide_eq_true h2, Bool.true_and, Bool.true_and] at h
        exact Or.inr (Or.inr h)
      · exact Or.inr (Or.inl (by omega))
  have HNP := hide (fun W => natParse2_no ⟨d.toArray⟩ m W (by omega) (by rw [size_mk]; omega) hno)
  have HCP := hide hcp
  clear hcp e45 hno h
  go_enter Tryz.func74, Tryz.ntmps74
  go_wp2_with fail
  refine HCP.out.mono ?_
  rintro e w1 ⟨rfl, rfl⟩
  go_wp2_with fail
  refine (HNP.out _).mono ?_
  rintro e w2 ⟨rfl, rfl⟩
  go_wp2_with fail
  refine (signed_any _ _ _ _ (NatV.zero _ _ _)).mono ?_
  rintro e w3 ⟨x, rfl, hx, hbx⟩
  obtain ⟨b2, a2, l2, k2, rfl, hv2, hb2⟩ := hx.parts
  have hboxB := hbox.below hbx
  have hbB : Below w.heap.size w w3 := hbW.trans (hbx.mono hbW.size)
  obtain ⟨c0, c1, f0, f1, g0⟩ := hboxB
  clear hbx hbox
  go_wp2
  exact bodyPost_ret (v := .tuple #[.agg #[.bool b2, .slice a2 l2 k2], .bool false]) (by simp [results, Tryz.results74, go_sem, c0, c1]) rfl ⟨b2, a2, l2, k2, rfl, (hbB.setCell (by simp) _).setCell (by simp) _⟩

end Go.Proofs.YtnhfdcfnojnofaaGreatDoor

/-
  Numbers read: fraction.Parse, of any text: yes or no.
-/
namespace Go.Proofs.YtnhfdcfnojnofaaGreatDoor
open Go.RowKit

theorem okD_parts {l : List UInt8} {m : Nat} (h : T.okD l m = true) : 0 < l.length ∧ l.length ≤ m ∧ allDig l = true := by
  unfold T.okD at h
  simp only [Bool.and_eq_true, decide_eq_true_eq] at h
  exact ⟨List.length_pos_iff.2 h.1, h.2.1, h.2.2⟩

end Go.Proofs.YtnhfdcfnojnofaaGreatDoor

/-
  What the place of a whole number on a line does (package problem): wholeInto.
-/
namespace Go.Proofs.YtnhfdcfnojnofaaGreatDoor
open Go.RowKit

/-- whole.Parse of any word. -/
theorem wparse_any (s : List UInt8) (w : World) (hs : s.length ≤ 1000000) :
    Calls Tryz.prog 74 #[.string ⟨s.toArray⟩, .int .i64 40] w fun e w' => ∃ b ao l c, e = .returned (.tuple #[.agg #[.bool b, .slice ao l c], .bool (dOk s)]) ∧ Below w.heap.size w w' ∧ (dOk s = true → WholeV w' (.agg #[.bool b, .slice ao l c]) (T.wZ s)) := by
  by_cases h : dOk s = true
  · obtain ⟨h0, h1, h2⟩ := okD_parts h
    refine (wholeParse_yes ⟨s.toArray⟩ 40 w (by omega) h0 h1 h2).mono ?_
    rintro e w' ⟨x, rfl, hx, hb⟩
    obtain ⟨b, ao, l, c, rfl, _, _⟩ := hx.parts
    exact ⟨b, ao, l, c, by rw [h], hb, fun _ => hx⟩
  · have h' : dOk s = false := by simpa using h
    refine (wholeParse_no ⟨s.toArray⟩ 40 w (by omega) (by simp [ByteArray.size]; omega) h').mono ?_
    rintro e w' ⟨b, ao, l, c, rfl, hb⟩
    exact ⟨b, ao, l, c, by rw [h'], hb, fun e => by rw [h'] at e; cases e⟩

set_option maxHeartbeats 1000000 in
set_option maxRecDepth 100000 in
theorem wholeInto_call (s : List UInt8) (q b o : Nat) (z : Int) (w : World) (h : w.cell? ⟨q, 0, none⟩ = some (.pointer (some ⟨b, o, none⟩))) (hw : WholeAt w b o z) (hq : q ≠ b) (hs : s.length ≤ 1000000) :
    Calls Tryz.prog 366 #[.string ⟨s.toArray⟩, .pointer (some ⟨q, 0, none⟩)] w fun e w' => e = .returned (.bool (dOk s)) ∧
      ∃ w1 x ao l c, Below w.heap.size w w1 ∧ w' = (w1.setCell ⟨b, o, none⟩ (.bool x)).setCell ⟨b, o + 1, none⟩ (.slice ao l c) ∧ (dOk s = true → WholeV w1 (.agg #[.bool x, .slice ao l c]) (T.wZ s)) := by
  have hm : Tryz.prog.follows .mixedOrders = true := by kernel_rfl
  have hlq : q < w.heap.size := block_lt_of_cell h
  have hlb := hw.lt
  obtain ⟨x0, a0, l0, c0, k0, k1, kw, f0, f1⟩ := hw
  have HP := hide (fun W => wparse_any s W hs)
  have HD : Hid (∃ d, dOk s = d) := ⟨_, rfl⟩
  obtain ⟨d, hd⟩ := HD.out
  rw [hd] at HP ⊢
  go_enter Tryz.func366, Tryz.ntmps366
  go_wp2
  go_region_held (fun W => W.cell? ⟨q, 0, none⟩ = some (.pointer (some ⟨b, o, none⟩))) (first | assumption | ((rw [far, far] <;> first | assumption | omega)) | go_keep)
    (first | (go_at_call 74; refine (HP.out _).mono ?_; rintro e w1 ⟨x, ao, l, c, rfl, hb1, hx⟩; have g0 := (hb1.cell (p := ⟨q, 0, none⟩) hlq).trans h; have g1 := (hb1.cell (p := ⟨b, o, none⟩) hlb).trans k0; have g2 := (hb1.cell (p := ⟨b, o + 1, none⟩) hlb).trans k1; have g3 := (hb1.frozen (p := ⟨b, o, none⟩) hlb).trans f0; have g4 := (hb1.frozen (p := ⟨b, o + 1, none⟩) hlb).trans f1))
  go_wp2
  go_ret
  exact ⟨rfl, w1, x, ao, l, c, ⟨hb1.os, hb1.tape, hb1.output, hb1.size, hb1.block⟩, rfl, hx⟩
end Go.Proofs.YtnhfdcfnojnofaaGreatDoor
