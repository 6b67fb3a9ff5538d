/-
  Part 37 of the texts ahead of Pls1: Ts16.
-/
import Derived.Test.YtnhfdcfnojnofaaGreatDoorPls1Z36
import Derived.Test.YtnhfdcfnojnofaaGreatDoorPls1Z8
import Derived.Deep.RegionHeld3
set_option linter.unusedSimpArgs false
set_option linter.unusedVariables false
/-
  What the document's own Parse does (package planesref).
-/
namespace Go.Proofs.YtnhfdcfnojnofaaGreatDoor.T
open Go.RowKit

/-- The empty problem, newly laid. -/
theorem RQ.start (w W1 : World) (hb : Below (w.heap.size + 1) (w.alloc (.cells #[.int .i64 0, .slice none 0 0, .slice none 0 0, .slice none 0 0, .slice none 0 0] 203)) W1) :
    RQ W1 W1 w.heap.size 0 [] [] [] [] (.slice none 0 0) (.slice none 0 0) (.slice none 0 0) (.slice none 0 0) := by
  have he : W1.heap[w.heap.size]? = some (.cells #[.int .i64 0, .slice none 0 0, .slice none 0 0, .slice none 0 0, .slice none 0 0] 203) := (hb.block w.heap.size (by omega)).trans (World.alloc_heap_new w _)
  have hlt : w.heap.size < W1.heap.size := (Array.getElem?_eq_some_iff.1 he).1
  have nil : ∀ g, Value.ownBlock (.slice none 0 0) = some g → False := fun g e => by cases e
  refine ⟨hlt, ?_, Wr.refl _ _, ?_, ⟨[], rfl, fun i t z h => by simp at h, Or.inl ⟨rfl, rfl⟩⟩, fun g e => (nil g e).elim, ⟨[], rfl, World.ownsRow_nil _ _ _ _, fun i t z h => by simp at h⟩, ⟨[], rfl, World.ownsRow_nil _ _ _ _, fun i t z h => by simp at h⟩, ⟨[], rfl, World.ownsRow_nil _ _ _ _, fun i t z h => by simp at h⟩, fun g e => (nil g e).elim, fun g e => (nil g e).elim, fun g e => (nil g e).elim⟩
  · rintro ⟨c, fr, hc⟩
    rw [he] at hc
    simp at hc
  · refine ⟨?_, ?_, ?_, ?_, ?_, ?_, ?_, ?_, ?_, ?_⟩ <;> simp [World.cell?, World.frozen?, he]

set_option maxHeartbeats 2000000 in
set_option maxRecDepth 100000 in
theorem parse_long (s : ByteArray) (w : World) (hs : 2000 < s.size) :
    Calls Tryz.prog 66 #[.string s] w fun e w' => e = .returned (.tuple #[.pointer none, .int .i64 4, .int .i64 0]) ∧ w' = w := by
  have hsI : (2000 : Int) < (s.size : Int) := by omega
  go_enter Tryz.func66, Tryz.ntmps66
  go_wp2
  go_ret3
  exact ⟨rfl, rfl⟩

theorem RPr.below {W1 w w' : World} {gp : Nat} {p : Prob} (h : RPr W1 w gp p) (hb : Below w.heap.size w w') : RPr W1 w' gp p := by
  obtain ⟨vM, vL, vH, vC, h⟩ := h
  exact ⟨vM, vL, vH, vC, h.below hb⟩

/-- All that is older than the problem's block is as it was. -/
theorem below_wr {w W1 w' : World} (hb : Below w.heap.size w W1) (hw : Wr (fun k => k = w.heap.size) W1 w') : Below w.heap.size w w' :=
  ⟨hw.os.trans hb.os, hw.tape.trans hb.tape, hw.output.trans hb.output, Nat.le_trans hb.size hw.size, fun k hk => (hw.block k (Nat.lt_of_lt_of_le hk hb.size) (by omega)).trans (hb.block k hk)⟩

theorem readS_at {LL : List (List UInt8 × Bool)} {i : Nat} {p : Prob} {y : List UInt8 × Bool} (hy : LL[i]? = some y) : readS i p (LL.drop i) = if y.2 = false then .error (i + 1) else match takeS i p (words y.1) with | none => .error (i + 1) | some q => readS (i + 1) q (LL.drop (i + 1)) := by
  obtain ⟨hlt, he⟩ := List.getElem?_eq_some_iff.1 hy
  rw [List.drop_eq_getElem_cons hlt, he, readS]
  rfl

/-- What the lines read so far have made. -/
def ReadSo (W1 wr : World) (gp : Nat) (LL : List (List UInt8 × Bool)) (i : Nat) (p : Prob) : Prop :=
  RPr W1 wr gp p ∧ PrOk i p ∧ readS 0 Prob.none LL = readS i p (LL.drop i)

theorem wide_at {rg : List (Int × Int)} {k : Nat} (hk : k < rg.length) : wideS k (rg.drop k) = if 7 < (rg.getD k (0, 0)).2 - (rg.getD k (0, 0)).1 then some k else wideS (k + 1) (rg.drop (k + 1)) := by
  rw [List.drop_eq_getElem_cons hk, wideS, List.getD_eq_getElem?_getD, List.getElem?_eq_getElem hk]
  rfl

/-- One of numbers that lie in a row. -/
theorem Nums.at_map {w : World} {v : Value} {zs : List Int} (h : Nums w v (zs.map fun z => (z, 1))) (j n : Nat) (z : Int) (hn : zs.length = n) (hz : zs[j]? = some z) :
    ∃ (g off cap : Nat) (t : Tri), v = .slice (some ⟨g, off, none⟩) n cap ∧ g < w.heap.size ∧ w.cell? ⟨g, off + j * 3, none⟩ = some (.bool t.b) ∧ w.cell? ⟨g, off + j * 3 + 1, none⟩ = some t.up ∧ w.cell? ⟨g, off + j * 3 + 2, none⟩ = some t.down ∧ NumV w t.val z 1 := by
  obtain ⟨ts, hl, hnum, hr⟩ := h
  rw [List.length_map] at hl
  have hj : j < zs.length := (List.getElem?_eq_some_iff.1 hz).1
  have htj : ts[j]? = some ts[j] := List.getElem?_eq_getElem (by omega)
  have hN := hnum j _ (z, 1) htj (by rw [List.getElem?_map, hz]; rfl)
  rcases hr with ⟨_, rfl⟩ | ⟨g, off, cap, h1, h2, h3, h4⟩
  · simp at hl; omega
  · obtain ⟨c0, c1, c2⟩ := h4 j _ htj
    exact ⟨g, off, cap, ts[j], by rw [h1, hl, hn], h3, c0, c1, c2, hN⟩

set_option maxHeartbeats 4000000 in
set_option maxRecDepth 100000 in
theorem parse_any (s : ByteArray) (w : World) (hs : s.size ≤ 2000) :
    Calls Tryz.prog 66 #[.string s] w fun e w' => Below w.heap.size w w' ∧ ((∃ a b : Nat, parseS s.data.toList = .error (a, b) ∧ e = .returned (.tuple #[.pointer none, .int .i64 (a : Nat), .int .i64 (b : Nat)])) ∨
      ∃ p W1, parseS s.data.toList = .ok p ∧ e = .returned (.tuple #[.pointer (some ⟨w.heap.size, 0, none⟩), .int .i64 0, .int .i64 0]) ∧ RPr W1 w' w.heap.size p ∧ PrOk (lines s.data.toList).length p) := by
  have hsI : ¬ (2000 : Int) < (s.size : Int) := by omega
  have HL := hide (fun W => lines_any s W (by omega))
  rw [lines_list] at HL
  obtain ⟨en, hen⟩ : ∃ en, decide ((part 10 s.data.toList).2 = []) = en := ⟨_, rfl⟩
  rw [hen] at HL
  have hLs : s.data.toList.length = s.size := toList_len s
  have HP : Hid (parseS s.data.toList = match readS 0 Prob.none (lines s.data.toList) with
    | .error k => .error (5, k)
    | .ok p => if (lines s.data.toList).length < 2 + p.n then .error (5, (lines s.data.toList).length + 1) else match wideS 0 p.rg with
      | some i => .error (6, i + 3)
      | .none => .ok p) := by
    rw [Hid]
    unfold parseS
    rw [if_neg (by omega)]
    rfl
  have HE : Hid (∀ (i : Nat) (x : List UInt8 × Bool), (lines s.data.toList)[i]? = some x → x.2 = !decide (i + 1 = (lines s.data.toList).length ∧ en = false)) := by
    intro i x hx
    rw [lines_end _ i x hx, ← hen]
    simp
  have HB : Hid ((lines s.data.toList).length ≤ 2000 ∧ ∀ x ∈ lines s.data.toList, x.1.length ≤ 2000) := by
    have h := linesF_len s.data.toList.length s.data.toList
    exact ⟨Nat.le_trans h.1 (by omega), fun x hx => Nat.le_trans (h.2 x hx) (by omega)⟩
  obtain ⟨LL, hLL⟩ : ∃ LL, lines s.data.toList = LL := ⟨_, rfl⟩
  rw [hLL] at HL HP HE HB ⊢
  clear hLL hen hLs
  have hL2 := HB.out.1
  go_enter Tryz.func66, Tryz.ntmps66
  go_wp2_with fail
  refine (HL.out _).mono ?_
  rintro e W1 ⟨x, rfl, hx, hfr, hb1⟩
  obtain ⟨xo, xc, rfl⟩ := hx.shape
  rw [List.length_map] at hx ⊢
  have hR0 : RPr W1 W1 w.heap.size Prob.none := ⟨_, _, _, _, RQ.start w W1 (by simpa using hb1)⟩
  have hbW : Below w.heap.size w W1 := ((Below.refl _ w).alloc (Nat.le_refl _) _).trans (hb1.mono (by simp))
  have hgW : w.heap.size < W1.heap.size := by have := hb1.size; simp at this; omega
  clear hb1
  go_wp2_with fail
  go_loopw [8] (fun iv wr => ∃ (i : Nat) (p : Prob), iv = .int .i64 (i : Nat) ∧ i ≤ LL.length ∧ Hid (ReadSo W1 wr w.heap.size LL i p)) (fun iv _ => LL.length - (intOf iv).toNat)
  case atStart => exact ⟨0, Prob.none, rfl, Nat.zero_le _, hR0, PrOk.start, by simp⟩
  case round =>
    obtain ⟨i, p, rfl, hi, HRS⟩ := hrel
    by_cases hlt : i < LL.length
    · have hne : LL.map (fun x => (⟨x.1.toArray⟩ : ByteArray)) ≠ [] := by intro e; rw [List.map_eq_nil_iff] at e; rw [e] at hlt; simp at hlt
      obtain ⟨g, off, rfl, hg, hrow⟩ := hx.row hne
      have hggp : g ≠ w.heap.size := by have := hfr g rfl; simp at this; omega
      obtain ⟨y, hy⟩ : ∃ y, LL[i]? = some y := ⟨_, List.getElem?_eq_getElem hlt⟩
      have hci : wr.cell? ⟨g, off + i, none⟩ = some (.string ⟨y.1.toArray⟩) := by
        have h1 := hrow i (by simpa using hlt)
        rw [List.getD_eq_getElem?_getD, List.getElem?_map, hy] at h1
        exact HRS.out.1.wr.cell (p := ⟨g, off + i, none⟩) hggp h1
      have hy2 : y.1.length ≤ 2000 := HB.out.2 y (List.mem_of_getElem? hy)
      have HWD := hide (fun W => words_any ⟨y.1.toArray⟩ W (by simp [ByteArray.size]; omega))
      have hyl : (⟨y.1.toArray⟩ : ByteArray).data.toList = y.1 := by simp
      rw [hyl] at HWD
      obtain ⟨ls, hls⟩ : ∃ ls, (part 32 y.1).1 ++ [(⟨(part 32 y.1).2.toArray⟩ : ByteArray)] = ls := ⟨_, rfl⟩
      have hlw : ls.map (fun l => l.data.toList) = words y.1 := by rw [← hls]; exact words_list y.1
      rw [hls] at HWD
      have hlen : ls.length = (words y.1).length := by rw [← hlw, List.length_map]
      have hw0 := words_pos y.1
      have hwl := wordsF_len (y.1.length + 1) y.1
      have hlsz : ∀ l ∈ ls, l.size ≤ 1000000000 := by
        intro l hl
        have h1 : l.data.toList ∈ words y.1 := by rw [← hlw]; exact List.mem_map_of_mem hl
        have h2 := hwl.2 _ h1
        rw [toList_len] at h2
        omega
      have hwl1 : (words y.1).length ≤ y.1.length + 1 := hwl.1
      have hP := HRS.out.2.1
      have HRD : Hid (readS 0 Prob.none LL = if y.2 = false then .error (i + 1) else match takeS i p (words y.1) with | none => .error (i + 1) | some q => readS (i + 1) q (LL.drop (i + 1))) := by rw [Hid, HRS.out.2.2]; exact readS_at hy
      have HYE := hide (HE.out i y hy)
      have HTK := hide (fun (W : World) (u : Value) (h1 : RPr W1 W w.heap.size p) (h2 : Sv W u ls) (h3 : ∀ k, u.ownBlock = some k → k ≠ w.heap.size) => take_any W1 W w.heap.size i p u ls h1 h2 h3 (by omega) (by omega) hlsz (by omega) hP.z hP.n (fun h => hP.r (by omega)) hP.l (by have := hP.g; have := hP.n; omega))
      rw [hlw] at HTK
      have HP2 := hide hP
      have hsw := HRS.out.1.wr.size
      clear hls hlw hwl hlsz hlen hw0 hwl1 hP
      go_wp2_with fail
      refine (HWD.out wr).mono ?_
      rintro e w2 ⟨v, rfl, hv, hvf, hb2⟩
      obtain ⟨vo, vc, rfl⟩ := hv.shape
      go_wp2_with fail
      refine (HTK.out w2 _ (HRS.out.1.below hb2) hv (fun k hk => by have := hvf k hk; omega)).mono ?_
      rintro e w3 ⟨hw3, hcase⟩
      have hbZ := below_wr hbW hw3
      rcases hcase with ⟨ht, rfl⟩ | ⟨q, ht, rfl, hq⟩
      · have HT := hide ht
        clear ht
        go_wp2
        go_ret3
        refine ⟨hbZ, Or.inl ⟨5, i + 1, ?_, by simp⟩⟩
        rw [HP.out, HRD.out, HT.out]
        by_cases hy0 : y.2 = false
        · simp [hy0]
        · simp [hy0]
      · have HT := hide ht
        clear ht
        by_cases hye : y.2 = false
        · obtain ⟨hl1, rfl⟩ : i + 1 = LL.length ∧ en = false := by
            have := HYE.out
            rw [hye] at this
            simpa using this.symm
          have hlI : (i : Int) = (LL.length : Int) - 1 := by omega
          clear hl1
          have HYF := hide hye
          clear hye
          go_wp2
          go_ret3
          refine ⟨hbZ, Or.inl ⟨5, i + 1, ?_, by simp; omega⟩⟩
          rw [HP.out, HRD.out, if_pos HYF.out]
        · have HYF := hide hye
          have hno : ¬ (i + 1 = LL.length ∧ en = false) := by
            intro e
            apply hye
            rw [HYE.out, decide_eq_true e]
            rfl
          clear hye
          have HQ : Hid (ReadSo W1 w3 w.heap.size LL (i + 1) q) := ⟨hq, HP2.out.step HT.out, by rw [HRD.out, if_neg HYF.out, HT.out]⟩
          clear hq
          by_cases hl1 : i + 1 = LL.length
          · obtain rfl : en = true := by
              cases en
              · exact absurd ⟨hl1, rfl⟩ hno
              · rfl
            go_wp2
            go_roundw
            case rel => exact ⟨i + 1, q, by go_num, by omega, HQ⟩
            case measure => simp [intOf]; omega
          · have hlI : ¬ (i : Int) = (LL.length : Int) - 1 := by omega
            go_wp2
            go_roundw
            case rel => exact ⟨i + 1, q, by go_num, by omega, HQ⟩
            case measure => simp [intOf]; omega
    · obtain rfl : i = LL.length := by omega
      have HRE : Hid (readS 0 Prob.none LL = .ok p) := by rw [Hid, HRS.out.2.2, List.drop_length]; rfl
      have hP := HRS.out.2.1
      obtain ⟨vM, vL, vH, vC, hQ⟩ := HRS.out.1
      obtain ⟨k0, k1, k2, k3, k4, e0, e1, e2, e3, e4⟩ := hQ.box
      have hbZ := below_wr hbW hQ.wr
      have hn4 : p.n ≤ 4 := by
        by_cases hz : LL.length = 0
        · rw [hP.z hz]; simp [Prob.none]
        · exact (hP.n (by omega)).2
      by_cases hfew : LL.length < 2 + p.n
      · have hfI : (LL.length : Int) < 2 + (p.n : Int) := by omega
        have HPE : Hid (parseS s.data.toList = .error (5, LL.length + 1)) := by
          rw [Hid, HP.out, HRE.out]
          simp only [hfew, if_true]
        by_cases hz : LL.length = 0
        · rw [hz] at HPE
          have hzI : (LL.length : Int) = 0 := by omega
          clear hfI hfew
          go_wp2
          go_ret3
          exact ⟨hbZ, Or.inl ⟨5, 0 + 1, HPE.out, by first | rfl | (simp; done) | (simp; omega)⟩⟩
        · have hzI : ¬ (LL.length : Int) = 0 := by omega
          have hzJ : ((LL.length : Int) == 0) = false := by simpa using hzI
          have hfJ : decide ((LL.length : Int) < 2 + (p.n : Int)) = true := by simpa using hfI
          go_wp2
          all_goals first | (exfalso; omega) | (go_ret3; exact ⟨hbZ, Or.inl ⟨5, LL.length + 1, HPE.out, by first | rfl | (simp; done) | (simp; omega)⟩⟩) | skip
      · have hfI : ¬ (LL.length : Int) < 2 + (p.n : Int) := by omega
        have hzI : ¬ (LL.length : Int) = 0 := by omega
        have hLne : ¬ LL = [] := by intro e; rw [e] at hfI; simp at hfI; omega
        go_wp2
        all_goals first | (exfalso; exact hLne (by assumption)) | skip
        go_loopw [10] (fun iv wr => ∃ (j : Nat), iv = .int .i64 (j : Nat) ∧ j ≤ p.n ∧ Hid (wideS 0 p.rg = wideS j (p.rg.drop j)) ∧ Hid (RQ W1 wr w.heap.size p.n p.mx (p.rg.map Prod.fst) (p.rg.map Prod.snd) p.rows vM vL vH vC)) (fun iv _ => p.n - (intOf iv).toNat)
        case atStart => exact ⟨0, rfl, Nat.zero_le _, by rw [Hid, List.drop_zero], hQ⟩
        case round =>
          obtain ⟨j, rfl, hj, HWJ, HQJ⟩ := hrel
          obtain ⟨k0, k1, k2, k3, k4, e0, e1, e2, e3, e4⟩ := HQJ.out.box
          by_cases hjl : j < p.n
          · have hrl : p.rg.length = p.n := by have := hP.g; omega
            have hjr : j < p.rg.length := by omega
            have hmem : p.rg.getD j (0, 0) ∈ p.rg := by rw [List.getD_eq_getElem?_getD, List.getElem?_eq_getElem hjr]; exact List.getElem_mem _
            obtain ⟨hz1, hz2⟩ := hP.bg _ hmem
            have HWA := hide (wide_at hjr)
            obtain ⟨gL, oL, cL, tL, hvL, hgL, l0, l1, l2, hNL⟩ := HQJ.out.lo.nums.at_map j p.rg.length (p.rg.getD j (0, 0)).1 (by simp) (by rw [List.getElem?_map, List.getD_eq_getElem?_getD, List.getElem?_eq_getElem hjr]; rfl)
            obtain ⟨gH, oH, cH, tH, hvH, hgH, m0, m1, m2, hNH⟩ := HQJ.out.hi.nums.at_map j p.rg.length (p.rg.getD j (0, 0)).2 (by simp) (by rw [List.getElem?_map, List.getD_eq_getElem?_getD, List.getElem?_eq_getElem hjr]; rfl)
            rw [hrl] at hvL hvH
            obtain ⟨lo, hlo⟩ : ∃ lo, (p.rg.getD j (0, 0)).1 = lo := ⟨_, rfl⟩
            obtain ⟨hi, hhi⟩ : ∃ hi, (p.rg.getD j (0, 0)).2 = hi := ⟨_, rfl⟩
            rw [hlo] at hz1 hNL
            rw [hhi] at hz2 hNH
            rw [hlo, hhi] at HWA
            rw [hvL] at k2
            rw [hvH] at k3
            obtain ⟨Lb, ⟨La, Ll, Lk⟩, ⟨Ma, Ml, Mk⟩⟩ := tL
            obtain ⟨Hb, ⟨Ha, Hl, Hk⟩, ⟨Ia, Il, Ik⟩⟩ := tH
            simp only [Tri.up, Tri.down, Tri.val] at l1 l2 m1 m2 hNL hNH
            have t1 : lo.natAbs < 10000 ^ 11 := Nat.lt_trans hz1 (by decide)
            have t2 : hi.natAbs < 10000 ^ 11 := Nat.lt_trans hz2 (by decide)
            have t3 : (-lo).natAbs < 10000 ^ 11 := by rw [Int.natAbs_neg]; exact t1
            have t4 : (hi - lo).natAbs < 10000 ^ 12 := by
              have h40 : (10 : Nat) ^ 40 + 10 ^ 40 < 10000 ^ 12 := by decide
              omega
            have HNL := hide (fun W (hW : Ext wr W) => hNL.below hW)
            have HNH := hide (fun W (hW : Ext wr W) => hNH.below hW)
            have HCL := hide (fun W (hW : Ext wr W) => And.intro (hW.cell k2) (And.intro (hW.cell k3) (And.intro (hW.cell l0) (And.intro (hW.cell l1) (And.intro (hW.cell l2) (And.intro (hW.cell m0) (And.intro (hW.cell m1) (hW.cell m2))))))))
            have HQE := hide (fun W (hW : Ext wr W) => HQJ.out.below hW)
            clear hNL hNH hmem hz1 hz2 hlo hhi k1 k4 e0 e1 e2 e3 e4
            go_wp2
            go_cut [11] (fun sv wc => ∃ (g5 : Nat) (bU : Bool) (aU : Option Addr) (lU kU : Nat) (aV : Option Addr) (lV kV : Nat), sv = .pointer (some ⟨g5, 0, none⟩) ∧ Box3 wc g5 (.bool bU) (.slice aU lU kU) (.slice aV lV kV) ∧ NumV wc (.agg #[.bool bU, .slice aU lU kU, .slice aV lV kV]) (hi - lo) 1 ∧ Ext wr wc)
            case first =>
              have x0 := Ext.refl wr
              have h5A : Box3 (wr.alloc (.cells #[.bool false, .slice none 0 0, .slice none 0 0] 118)) wr.heap.size (.bool false) (.slice none 0 0) (.slice none 0 0) := Box3.new _ _ _ _ _
              obtain ⟨s0, s1, s2, s3, s4, s5, s6, s7⟩ := HCL.out wr x0
              go_region_held3 (fun w' => w'.cell? ⟨w.heap.size, 2, none⟩ = some (.slice (some ⟨gL, oL, none⟩) p.n cL) ∧ w'.cell? ⟨w.heap.size, 3, none⟩ = some (.slice (some ⟨gH, oH, none⟩) p.n cH) ∧ w'.cell? ⟨gL, oL + j * 3, none⟩ = some (.bool Lb) ∧ w'.cell? ⟨gL, oL + j * 3 + 1, none⟩ = some (.slice La Ll Lk) ∧ w'.cell? ⟨gL, oL + j * 3 + 2, none⟩ = some (.slice Ma Ml Mk) ∧ w'.cell? ⟨gH, oH + j * 3, none⟩ = some (.bool Hb) ∧ w'.cell? ⟨gH, oH + j * 3 + 1, none⟩ = some (.slice Ha Hl Hk) ∧ w'.cell? ⟨gH, oH + j * 3 + 2, none⟩ = some (.slice Ia Il Ik)) (first | (exact HCL.out _ (by with_reducible first | assumption | exact Ext.alloc (by assumption) _ | exact Ext.drew (by assumption))) | (exact HCL.out _ (xB.set3 xA.size _ _ _)) | (exact HCL.out _ (xB.set3 (Nat.le_refl _) _ _ _)) | go_keep)
                (first | (go_at_call 103; have _g := hA1; refine (add_any 11 (by omega) _ _ _ hi (-lo) 1 1 (HNH.out _ (by first | exact xA | exact xA.alloc _)) (by first | exact hA1 | exact hA1.alloc _) t2 t3 (by decide) (by decide)).mono ?_; rintro e wB ⟨tB, rfl, hB1, hbB1⟩; have xB : Ext wr wB := (by first | exact xA.trans hbB1 | exact (xA.alloc _).trans hbB1); obtain ⟨o0, o1, o2, o3, o4, o5, o6, o7⟩ := HCL.out wB xB; obtain ⟨bU, aU, lU, kU, aV, lV, kV, rfl, _, _, _, _⟩ := hB1.parts; (first | (have h5C : Box3 wB wr.heap.size (.bool false) (.slice none 0 0) (.slice none 0 0) := (by exact h5B.below hbB1); have h5c := h5C; obtain ⟨n0, n1, n2, n3, n4, n5, n6⟩ := h5c) | (have h5C : Box3 wB wA.heap.size (.bool false) (.slice none 0 0) (.slice none 0 0) := (by exact (Box3.new wA _ _ _ _).below hbB1); have h5c := h5C; obtain ⟨n0, n1, n2, n3, n4, n5, n6⟩ := h5c) | skip)) | (go_at_call 104; refine (turned_any _ _ lo 1 (HNL.out _ (by first | exact x0.drew | exact (x0.alloc _).drew | exact x0.drew.alloc _)) 11 t1).mono ?_; rintro e wA ⟨tA, rfl, hA1, hbA1⟩; have xA : Ext wr wA := (by first | exact x0.drew.trans hbA1 | exact (x0.alloc _).drew.trans hbA1 | exact (x0.drew.alloc _).trans hbA1); obtain ⟨q0, q1, q2, q3, q4, q5, q6, q7⟩ := HCL.out wA xA; (first | (have h5B : Box3 wA wr.heap.size (.bool false) (.slice none 0 0) (.slice none 0 0) := (by exact h5A.drew.below hbA1); have h5b := h5B; obtain ⟨j0, j1, j2, j3, j4, j5, j6⟩ := h5b) | skip)))
              all_goals go_wp2_with fail
              all_goals go_meet
              all_goals have hval : NumV wB (.agg #[.bool bU, .slice aU lU kU, .slice aV lV kV]) (hi - lo) 1 := (by simpa [Int.sub_eq_add_neg] using hB1)
              all_goals have hwA : wr.heap.size ≤ wA.heap.size := xA.size
              all_goals first | exact ⟨wB.heap.size, bU, aU, lU, kU, aV, lV, kV, rfl, Box3.new _ _ _ _ _, hval.alloc _, xB.alloc _⟩ | exact ⟨wA.heap.size, bU, aU, lU, kU, aV, lV, kV, rfl, Box3.stored h5C, hval.stored h5C, xB.set3 hwA _ _ _⟩ | exact ⟨wr.heap.size, bU, aU, lU, kU, aV, lV, kV, rfl, Box3.stored h5C, hval.stored h5C, xB.set3 (Nat.le_refl _) _ _ _⟩
            case rest =>
              obtain ⟨g5, bU, aU, lU, kU, aV, lV, kV, rfl, hbox5, hU, xc⟩ := hcut
              have HOF : Hid (∀ W : World, Calls Tryz.prog 69 #[.int .i64 7] W fun e w' => ∃ t, e = .returned t ∧ NumV w' t 7 1 ∧ Below W.heap.size W w') := fun W => of_small 7 (by omega) (by omega) W
              have HU := hide (fun W (hW : Ext wc W) => hU.below hW)
              have HC5 := hide (fun W (hW : Ext wc W) => And.intro (hW.cell hbox5.1) (And.intro (hW.cell hbox5.2.1) (hW.cell hbox5.2.2.1)))
              have HQF := hide (fun W (hW : Ext wc W) => HQE.out W (xc.trans hW))
              have y0 := Ext.refl wc
              obtain ⟨n0, n1, n2⟩ := HC5.out wc y0
              obtain ⟨sg, hsg⟩ : ∃ sg, ((hi - lo) * ((1 : Nat) : Int) + (-7) * ((1 : Nat) : Int)).sign = sg := ⟨_, rfl⟩
              have hpos : 0 < sg ↔ 7 < hi - lo := by rw [← hsg, Int.sign_pos_iff]; omega
              have HSG := hide hsg
              clear hsg hU hbox5 HNL HNH HCL HQE l0 l1 l2 m0 m1 m2 k2 k3 HQJ
              by_cases hw7 : 7 < hi - lo
              · have hs0 : 0 < sg := hpos.2 hw7
                clear hpos
                have HPE : Hid (parseS s.data.toList = .error (6, j + 3)) := by
                  have hw : wideS 0 p.rg = some j := by rw [HWJ.out, HWA.out, if_pos hw7]
                  rw [Hid, HP.out, HRE.out]
                  simp only [hfew, if_false, hw]
                clear hw7
                go_wp2_with fail
                go_region_held3 (fun w' => w'.cell? ⟨g5, 0, none⟩ = some (.bool bU) ∧ w'.cell? ⟨g5, 1, none⟩ = some (.slice aU lU kU) ∧ w'.cell? ⟨g5, 2, none⟩ = some (.slice aV lV kV)) (first | (exact HC5.out _ (by with_reducible first | assumption | exact Ext.alloc (by assumption) _ | exact Ext.drew (by assumption))) | go_keep)
                  (first | (go_at_call 68; refine (ccompare_any 12 (by omega) _ _ _ (hi - lo) 7 1 1 (HU.out _ xA) hA1 t4 (by decide) (by decide) (by decide)).mono ?_; rintro e wB ⟨he, hbB1⟩; rw [HSG.out] at he; subst he; have xB : Ext wc wB := xA.trans hbB1; obtain ⟨o0, o1, o2⟩ := HC5.out wB xB) | (go_at_call 69; refine (HOF.out _).mono ?_; rintro e wA ⟨tA, rfl, hA1, hbA1⟩; have xA : Ext wc wA := (by first | exact y0.drew.trans hbA1 | exact y0.trans hbA1); obtain ⟨q0, q1, q2⟩ := HC5.out wA xA))
                all_goals go_wp2
                all_goals go_ret3
                all_goals exact ⟨below_wr hbW (HQF.out _ (by first | exact xB | exact xB.drew)).wr, Or.inl ⟨6, j + 3, HPE.out, by first | rfl | (simp; done) | (simp; omega)⟩⟩
              · have hs0 : ¬ 0 < sg := fun h => hw7 (hpos.1 h)
                clear hpos
                have HWN : Hid (wideS 0 p.rg = wideS (j + 1) (p.rg.drop (j + 1))) := by rw [Hid, HWJ.out, HWA.out, if_neg hw7]
                clear hw7
                go_wp2_with fail
                go_region_held3 (fun w' => w'.cell? ⟨g5, 0, none⟩ = some (.bool bU) ∧ w'.cell? ⟨g5, 1, none⟩ = some (.slice aU lU kU) ∧ w'.cell? ⟨g5, 2, none⟩ = some (.slice aV lV kV)) (first | (exact HC5.out _ (by with_reducible first | assumption | exact Ext.alloc (by assumption) _ | exact Ext.drew (by assumption))) | go_keep)
                  (first | (go_at_call 68; refine (ccompare_any 12 (by omega) _ _ _ (hi - lo) 7 1 1 (HU.out _ xA) hA1 t4 (by decide) (by decide) (by decide)).mono ?_; rintro e wB ⟨he, hbB1⟩; rw [HSG.out] at he; subst he; have xB : Ext wc wB := xA.trans hbB1; obtain ⟨o0, o1, o2⟩ := HC5.out wB xB) | (go_at_call 69; refine (HOF.out _).mono ?_; rintro e wA ⟨tA, rfl, hA1, hbA1⟩; have xA : Ext wc wA := (by first | exact y0.drew.trans hbA1 | exact y0.trans hbA1); obtain ⟨q0, q1, q2⟩ := HC5.out wA xA))
                all_goals go_wp2
                all_goals go_roundw
                case rel => exact ⟨j + 1, by go_num, by omega, HWN, HQF.out _ (by first | exact xB | exact xB.drew)⟩
                case measure => simp [intOf]; omega
          · have hrl : p.rg.length = p.n := by have := hP.g; omega
            have HPO : Hid (parseS s.data.toList = .ok p) := by
              have hw : wideS 0 p.rg = none := by
                rw [HWJ.out, List.drop_eq_nil_of_le (by omega)]
                rfl
              rw [Hid, HP.out, HRE.out]
              simp only [hfew, if_false, hw]
            have hbY := below_wr hbW HQJ.out.wr
            go_wp2
            go_ret3
            exact ⟨hbY, Or.inr ⟨p, W1, HPO.out, rfl, ⟨_, _, _, _, HQJ.out⟩, hP⟩⟩
end Go.Proofs.YtnhfdcfnojnofaaGreatDoor.T
