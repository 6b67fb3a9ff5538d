/-
  Part 15 of the texts ahead of Pls1: Tr14, Tr11, Tr16.
-/
import Derived.Test.YtnhfdcfnojnofaaGreatDoorPls1Z13
import Derived.Test.YtnhfdcfnojnofaaGreatDoorPls1Z14
import Derived.Test.YtnhfdcfnojnofaaGreatDoorPls1Z12
import Derived.Deep.DeepCutAuto
import Derived.Test.YtnhfdcfnojnofaaGreatDoorPls1Z8
set_option linter.unusedSimpArgs false
set_option linter.unusedVariables false
/-
  What the document's own Read does (package planesref).
-/
namespace Go.Proofs.YtnhfdcfnojnofaaGreatDoor.T
open Go.RowKit

/-- Digits, at least one and at most m. -/
def okD (l : List UInt8) (m : Nat) : Bool := decide (l ≠ []) && (decide (l.length ≤ m) && allDig l)

theorem places_all (s : ByteArray) (m : Nat) (w : World) (hs : s.size ≤ 9223372036854775807) (hm : m ≤ 1000000) :
    Calls Tryz.prog 182 #[.string s, .int .i64 (m : Nat)] w fun e w' => ∃ ao l cap, e = .returned (.tuple #[.slice ao l cap, .bool (okD s.data.toList m)]) ∧ (okD s.data.toList m = true → NV w' (.slice ao l cap) (decVal s.data.toList)) ∧ (okD s.data.toList m = false → l = 0) ∧ Below w.heap.size w w' := by
  by_cases h : s = ⟨#[]⟩ ∨ m < s.size
  · have e : okD s.data.toList m = false := by
      rcases h with rfl | h
      · rfl
      · have : ¬ s.data.toList.length ≤ m := by rw [toList_len]; omega
        unfold okD
        rw [decide_eq_false this, Bool.false_and, Bool.and_false]
    refine (places_out s m w h hs hm).mono ?_
    rintro e' w' ⟨rfl, rfl⟩
    rw [e]
    exact ⟨none, 0, 0, rfl, fun h => by simp at h, fun _ => rfl, Below.refl _ _⟩
  · rw [not_or] at h
    have h0 : 0 < s.size := by
      rcases Nat.eq_zero_or_pos s.size with h' | h'
      · exact absurd (ByteArray.ext (Array.eq_empty_of_size_eq_zero h')) h.1
      · exact h'
    have e : okD s.data.toList m = allDig s.data.toList := by
      have h1 : s.data.toList ≠ [] := by
        intro e
        have := toList_len s
        rw [e] at this
        simp at this
        omega
      have h2 : s.data.toList.length ≤ m := by rw [toList_len]; omega
      unfold okD
      rw [decide_eq_true h1, decide_eq_true h2, Bool.true_and, Bool.true_and]
    refine (places_any s m w h0 (by omega) hm).mono ?_
    rintro e' w' ⟨x, rfl, h1, h2, hb⟩
    rw [e]
    by_cases ha : allDig s.data.toList = true
    · obtain ⟨ao, l, cap, rfl⟩ := (h1 ha).slice
      exact ⟨ao, l, cap, rfl, h1, fun h => by rw [ha] at h; simp at h, hb⟩
    · have ha' : allDig s.data.toList = false := by simpa using ha
      have := h2 ha'
      subst this
      exact ⟨none, 0, 0, rfl, h1, fun _ => rfl, hb⟩

/-- What is read of a text: is it a number's; its parts. -/
def rdOk (T : List UInt8) (m : Nat) : Bool := okD (Lib.cut T [47]).1 m && (!(Lib.cut T [47]).2.2 || (okD (Lib.cut T [47]).2.1 m && decide (decVal (Lib.cut T [47]).2.1 ≠ 0)))
def rdDown (T : List UInt8) : Nat := if (Lib.cut T [47]).2.2 then decVal (Lib.cut T [47]).2.1 else 1

theorem okD_lt {A : List UInt8} {m : Nat} (h : okD A m = true) : decVal A < 10000 ^ (m + 1) := by
  unfold okD at h
  simp only [Bool.and_eq_true, decide_eq_true_eq] at h
  have h1 := decVal_lt h.2.2
  rw [pow4]
  exact Nat.lt_of_lt_of_le h1 (Nat.pow_le_pow_right (by omega) (by omega))

theorem cut_here {T : List UInt8} {k : Nat} (hk : k < T.length) (h47 : T[k] = 47) (hno : ∀ i (h : i < k), T[i]'(by omega) ≠ 47) : Lib.cut T [47] = (T.take k, T.drop (k + 1), true) := by
  have e : T = T.take k ++ 47 :: T.drop (k + 1) := by
    conv => lhs; rw [← List.take_append_drop k T, List.drop_eq_getElem_cons hk, h47]
  conv => lhs; rw [e]
  refine cut_at _ _ ?_
  intro c hc
  obtain ⟨i, hi, rfl⟩ := List.getElem_of_mem hc
  rw [List.getElem_take]
  exact hno i (by rw [List.length_take] at hi; omega)

theorem cut_not {T : List UInt8} (hno : ∀ i (h : i < T.length), T[i] ≠ 47) : Lib.cut T [47] = (T, [], false) := by
  refine cut_none T ?_
  intro c hc
  obtain ⟨i, hi, rfl⟩ := List.getElem_of_mem hc
  exact hno i hi

set_option maxHeartbeats 4000000 in
set_option maxRecDepth 100000 in
theorem read_any (s : ByteArray) (m : Nat) (w : World) (hs : s.size ≤ 9223372036854775807) (hm : m ≤ 400) :
    Calls Tryz.prog 102 #[.string s, .int .i64 (m : Nat)] w fun e w' => ∃ b ao l cap ao' l' cap', e = .returned (.tuple #[.agg #[.bool b, .slice ao l cap, .slice ao' l' cap'], .bool (rdOk (Lib.trimPrefix s.data.toList [45]) m)]) ∧
      (rdOk (Lib.trimPrefix s.data.toList [45]) m = true → NumV w' (.agg #[.bool b, .slice ao l cap, .slice ao' l' cap']) (sg (Lib.hasPrefix s.data.toList [45]) (decVal (Lib.cut (Lib.trimPrefix s.data.toList [45]) [47]).1) / (Nat.gcd (decVal (Lib.cut (Lib.trimPrefix s.data.toList [45]) [47]).1) (rdDown (Lib.trimPrefix s.data.toList [45])) : Int)) (rdDown (Lib.trimPrefix s.data.toList [45]) / Nat.gcd (decVal (Lib.cut (Lib.trimPrefix s.data.toList [45]) [47]).1) (rdDown (Lib.trimPrefix s.data.toList [45])))) ∧ Below w.heap.size w w' := by
  have hboxR : Box3 (w.alloc (.cells #[.bool false, .slice none 0 0, .slice none 0 0] 118)) w.heap.size (.bool false) (.slice none 0 0) (.slice none 0 0) := Box3.new _ _ _ _ _
  have hbW : Below w.heap.size w (w.alloc (.cells #[.bool false, .slice none 0 0, .slice none 0 0] 118)) := (Below.refl _ _).alloc (Nat.le_refl _) _
  obtain ⟨T, hT⟩ : ∃ T : ByteArray, T.data.toList = Lib.trimPrefix s.data.toList [45] := ⟨⟨(Lib.trimPrefix s.data.toList [45]).toArray⟩, by simp⟩
  obtain ⟨neg, hneg⟩ : ∃ neg, Lib.hasPrefix s.data.toList [45] = neg := ⟨_, rfl⟩
  rw [← hT, hneg]
  have hTs : T.size ≤ s.size := by
    rw [← toList_len T, ← toList_len s, hT, Lib.trimPrefix]
    split
    · simp
    · exact Nat.le_refl _
  have HNEG : Hid ((s = ⟨#[]⟩ → neg = false ∧ T = s) ∧ (∀ h : 0 < s.size, s[0].toNat = 45 → neg = true ∧ T = s.extract 1 s.size) ∧ (∀ h : 0 < s.size, s[0].toNat ≠ 45 → neg = false ∧ T = s)) := by
    rw [Hid]
    obtain ⟨⟨l⟩⟩ := s
    have hT' : T.data.toList = Lib.trimPrefix l [45] := hT
    have hneg' : Lib.hasPrefix l [45] = neg := hneg
    refine ⟨fun e => ?_, fun h e => ?_, fun h e => ?_⟩
    · obtain rfl : l = [] := by simpa using e
      exact ⟨by rw [← hneg']; rfl, ba_of hT'⟩
    · cases l with
      | nil => simp [ByteArray.size] at h
      | cons c r =>
        obtain rfl : c = 45 := UInt8.toNat.inj e
        refine ⟨by rw [← hneg']; simp [Lib.hasPrefix], ?_⟩
        rw [ba_of hT']
        apply Eq.symm
        apply ba_of
        rw [Lib.extract_to_end]
        simp [Lib.trimPrefix, Lib.hasPrefix]
    · cases l with
      | nil => simp [ByteArray.size] at h
      | cons c r =>
        have hc : c ≠ 45 := by rintro rfl; exact e rfl
        have hp : Lib.hasPrefix (c :: r) [45] = false := by simp [Lib.hasPrefix, List.isPrefixOf, Ne.symm hc]
        exact ⟨by rw [← hneg', hp], ba_of (by rw [hT', Lib.trimPrefix, hp]; rfl)⟩
  clear hT hneg
  have hTz : T.size ≤ 9223372036854775807 := by omega
  obtain ⟨L, hL⟩ : ∃ L, T.data.toList = L := ⟨_, rfl⟩
  have hLs : L.length = T.size := by rw [← hL]; exact toList_len T
  have HG : Hid (∀ (I : Nat) (h : I < T.size), T[I] = L[I]'(by omega)) := by
    rw [Hid]
    intro I h
    subst hL
    rfl
  rw [hL]
  have HL := hide hL
  clear hL
  generalize hwA : w.alloc (.cells #[.bool false, .slice none 0 0, .slice none 0 0] 118) = wA at *
  go_enter Tryz.func102, Tryz.ntmps102
  go_upto_region 1 with fail
  clear hwA
  go_cut [6] (fun v wc => v = .bool neg ∧ wA = wc)
  case first =>
    by_cases he : s = ⟨#[]⟩
    · obtain ⟨rfl, _⟩ := HNEG.out.1 he
      subst he
      clear HNEG
      go_wp2_with fail
      all_goals go_meet
      all_goals exact ⟨rfl, rfl⟩
    · have h0 : 0 < s.size := by
        rcases Nat.eq_zero_or_pos s.size with h' | h'
        · exact absurd (ByteArray.ext (Array.eq_empty_of_size_eq_zero h')) he
        · exact h'
      have h0i : (0 : Int) < (s.size : Int) := by omega
      by_cases hc : (s[0].toNat : Int) = 45
      · obtain ⟨rfl, _⟩ := HNEG.out.2.1 h0 (by omega)
        clear HNEG
        go_wp2_with fail
        all_goals go_meet
        all_goals exact ⟨rfl, rfl⟩
      · obtain ⟨rfl, _⟩ := HNEG.out.2.2 h0 (by omega)
        clear HNEG
        go_wp2_with fail
        all_goals go_meet
        all_goals exact ⟨by simp [hc], rfl⟩
  case rest =>
    obtain ⟨rfl, rfl⟩ := hcut
    have HN2 : Hid ((neg = true → 0 < s.size ∧ T = s.extract 1 s.size) ∧ (neg = false → T = s)) := by
      rw [Hid]
      by_cases he : s = ⟨#[]⟩
      · obtain ⟨h1, h2⟩ := HNEG.out.1 he
        exact ⟨fun h => by rw [h1] at h; simp at h, fun _ => h2⟩
      · have h0 : 0 < s.size := by
          rcases Nat.eq_zero_or_pos s.size with h' | h'
          · exact absurd (ByteArray.ext (Array.eq_empty_of_size_eq_zero h')) he
          · exact h'
        by_cases hc : s[0].toNat = 45
        · obtain ⟨h1, h2⟩ := HNEG.out.2.1 h0 hc
          exact ⟨fun _ => ⟨h0, h2⟩, fun h => by rw [h1] at h; simp at h⟩
        · obtain ⟨h1, h2⟩ := HNEG.out.2.2 h0 hc
          exact ⟨fun h => by rw [h1] at h; simp at h, fun _ => h2⟩
    clear HNEG
    go_upto_if 19 with fail
    go_cut [0] (fun v wc => v = .string T ∧ wA = wc)
    case first =>
      cases neg with
      | true =>
        obtain ⟨h0, hTe⟩ := HN2.out.1 rfl
        have HTE := hide hTe
        clear HN2 hTe
        go_wp2_with fail
        all_goals go_meet
        all_goals exact ⟨by rw [HTE.out], rfl⟩
      | false =>
        have hTe := HN2.out.2 rfl
        subst hTe
        clear HN2
        go_wp2_with fail
        all_goals go_meet
        all_goals exact ⟨rfl, rfl⟩
    case rest =>
      obtain ⟨rfl, rfl⟩ := hcut
      clear HN2
      clear hs hTs
      go_wp2_with fail
      go_loop [7] (fun v => ∃ k : Nat, k ≤ T.size ∧ v = .int .i64 (k : Nat) ∧ Hid (∀ i (h : i < k) (h' : i < L.length), L[i] ≠ 47)) (fun v => ((T.size : Int) - intOf v).toNat)
      case atStart => exact ⟨0, by omega, rfl, by rw [Hid]; intro i h; omega⟩
      case round =>
        obtain ⟨k, hk, rfl, hno⟩ := hrel
        by_cases hkT : k < T.size
        · have hkTi : (k : Int) < (T.size : Int) := by omega
          have hgk := HG.out k hkT
          by_cases h47 : (T[k].toNat : Int) = 47
          · have hc47 : L[k]'(by omega) = 47 := by
              rw [← hgk]
              exact UInt8.toNat.inj (by have : T[k].toNat = 47 := by omega
                                        exact this)
            have hcut := cut_here (T := L) (by omega) hc47 (fun i h => hno.out i h (by omega))
            clear hgk hc47 hno
            have HE1 : Hid ((Lib.cut L [47]).1 = L.take k) := by rw [Hid, hcut]
            have HE2 : Hid (rdDown L = decVal (L.drop (k + 1))) := by rw [Hid, rdDown, hcut]; rfl
            have HRD : Hid (rdOk L m = (okD (L.take k) m && (okD (L.drop (k + 1)) m && decide (decVal (L.drop (k + 1)) ≠ 0)))) := by rw [Hid, rdOk, hcut]; rfl
            have eA : (T.extract 0 k).data.toList = L.take k := by rw [Lib.extract_data, List.drop_zero, Nat.sub_zero, HL.out]
            have eB : (T.extract (k + 1) T.size).data.toList = L.drop (k + 1) := by rw [Lib.extract_to_end, HL.out]
            have hpA := fun W => places_all (T.extract 0 k) m W (by rw [← toList_len, eA, List.length_take]; omega) (by omega)
            have hpB := fun W => places_all (T.extract (k + 1) T.size) m W (by rw [← toList_len, eB, List.length_drop]; omega) (by omega)
            simp only [eA] at hpA
            simp only [eB] at hpB
            have HPA := hide hpA
            have HPB := hide hpB
            clear hpA hpB eA eB hcut
            generalize L.take k = A at *
            generalize L.drop (k + 1) = B at *
            go_wp2_with fail
            refine (HPA.out _).mono ?_
            rintro e w1 ⟨ao, l, cap, rfl, h1, h2, hb1⟩
            have hbox1 := hboxR.below hb1
            have hbl1 := hbW.trans (hb1.mono hbW.size)
            clear hb1 hboxR hbW
            by_cases hA : okD A m = true
            · have hN1 := h1 hA
              have HA100 := hide (okD_lt hA)
              have HRD2 : Hid (rdOk L m = (okD B m && decide (decVal B ≠ 0))) := by rw [Hid, HRD.out, hA, Bool.true_and]
              have hN2 := hN1.alloc (.cells #[.int .i64 1] 3)
              have hbox2 := hbox1.alloc (.cells #[.int .i64 1] 3)
              have hbl2 := hbl1.alloc hbl1.size (.cells #[.int .i64 1] 3)
              rw [hA]
              clear h1 h2 HRD
              go_wp2_with fail
              refine (HPB.out _).mono ?_
              rintro e w3 ⟨bo, l', cap', rfl, g1, g2, hb3⟩
              have hN3 := hN2.below hb3
              have hbox3 := hbox2.below hb3
              have hbl3 := hbl2.trans (hb3.mono hbl2.size)
              clear hb3 hbox2 hbl2 hN2 hbox1 hbl1 hN1
              have hbx := hbox3
              obtain ⟨c0, c1, c2, c3, c4, c5, c6⟩ := hbx
              by_cases hB : okD B m = true
              · have hD := g1 hB
                have HD100 := hide (okD_lt hB)
                have hll := nv_len hD HD100.out
                rw [hB]
                by_cases hd0 : decVal B = 0
                · have hl0 : l' = 0 := hll.2.2 hd0
                  have HNO : Hid (rdOk L m = false) := by rw [Hid, HRD2.out, hB, decide_eq_false (fun h => h hd0)]; rfl
                  subst hl0
                  clear hll hd0
                  go_wp2
                  exact bodyPost_ret (v := .tuple #[.agg #[.bool false, .slice none 0 0, .slice none 0 0], .bool false]) (by simp [results, Tryz.results102, go_sem, c0, c1, c2]) rfl ⟨false, none, 0, 0, none, 0, 0, by rw [HNO.out], fun h => absurd (HNO.out.symm.trans h) (by decide), below_stored hbl3 (Nat.le_refl _) _ _ _⟩
                · have HYES : Hid (rdOk L m = true) := by rw [Hid, HRD2.out, hB, decide_eq_true hd0]; rfl
                  have HD0 := hide hd0
                  have hl0 : ¬ l' = 0 := fun e => hd0 (hll.2.1 e)
                  have hl0i : (l' : Int) ≠ 0 := by omega
                  clear hll hd0
                  go_wp2_with fail
                  refine (lowest_any _ neg _ _ (decVal A) (decVal B) (m + 1) hN3 hD HA100.out HD100.out HD0.out (by omega)).mono ?_
                  rintro e w5 ⟨t5, rfl, h5, hb5⟩
                  obtain ⟨b5, o5, l5, k5, p5, n5, q5, rfl, hp1, hp2, hp3, hp4⟩ := h5.parts
                  have hbox5 := hbox3.below hb5
                  have hbl5 := hbl3.trans (hb5.mono hbl3.size)
                  clear hb5 c0 c1 c2 c3 c4 c5 c6
                  obtain ⟨c0, c1, c2, c3, c4, c5, c6⟩ := hbox5
                  go_wp2
                  exact bodyPost_ret (v := .tuple #[.agg #[.bool b5, .slice o5 l5 k5, .slice p5 n5 q5], .bool true]) (by simp [results, Tryz.results102, go_sem, c0, c1, c2]) rfl ⟨b5, o5, l5, k5, p5, n5, q5, by rw [HYES.out], fun _ => by rw [HE1.out, HE2.out]; exact numV_boxed hp1 hp2 hp3 hp4 c0 c1 c2, below_stored hbl5 (Nat.le_refl _) _ _ _⟩
              · have hBf : okD B m = false := by simpa using hB
                have HNO : Hid (rdOk L m = false) := by rw [Hid, HRD2.out, hBf]; rfl
                rw [hBf]
                go_wp2
                exact bodyPost_ret (v := .tuple #[.agg #[.bool false, .slice none 0 0, .slice none 0 0], .bool false]) (by simp [results, Tryz.results102, go_sem, c0, c1, c2]) rfl ⟨false, none, 0, 0, none, 0, 0, by rw [HNO.out], fun h => absurd (HNO.out.symm.trans h) (by decide), below_stored hbl3 (Nat.le_refl _) _ _ _⟩
            · have hAf : okD A m = false := by simpa using hA
              have HNO : Hid (rdOk L m = false) := by rw [Hid, HRD.out, hAf]; rfl
              rw [hAf]
              have hS := (Box3.stored (b := false) (a := none) (l := 0) (k := 0) (a2 := none) (l2 := 0) (k2 := 0) hbox1).alloc (.cells #[.int .i64 1] 3)
              obtain ⟨c0, c1, c2, c3, c4, c5, c6⟩ := hS
              obtain ⟨d0, d1, d2, d3, d4, d5, d6⟩ := hbox1
              go_wp2
              exact bodyPost_ret (v := .tuple #[.agg #[.bool false, .slice none 0 0, .slice none 0 0], .bool false]) (by simp [results, Tryz.results102, go_sem, c0, c1, c2]) rfl ⟨false, none, 0, 0, none, 0, 0, by rw [HNO.out], fun h => absurd (HNO.out.symm.trans h) (by decide), (below_stored hbl1 (Nat.le_refl _) _ _ _).alloc (by have := hbl1.size; simp; omega) _⟩
          · have HNX : Hid (∀ i (h : i < k + 1) (h' : i < L.length), L[i] ≠ 47) := by
              rw [Hid]
              intro i h h'
              by_cases hik : i = k
              · subst hik
                rw [← hgk]
                intro e
                rw [e] at h47
                exact h47 rfl
              · exact hno.out i (by omega) h'
            clear hgk hno
            go_wp2
            go_round
            case rel => exact ⟨k + 1, by omega, by go_num, HNX⟩
            case measure => simp [intOf]; omega
        · obtain rfl : k = T.size := by omega
          have hcut := cut_not (T := L) (fun i h => hno.out i (by omega) h)
          clear hno
          have HE1 : Hid ((Lib.cut L [47]).1 = L) := by rw [Hid, hcut]
          have HE2 : Hid (rdDown L = 1) := by rw [Hid, rdDown, hcut]; rfl
          have HRD : Hid (rdOk L m = okD L m) := by rw [Hid, rdOk, hcut]; simp
          have eA : T.data.toList = L := HL.out
          have hpA := fun W => places_all T m W hTz (by omega)
          simp only [eA] at hpA
          have HPA := hide hpA
          clear hpA eA hcut
          go_wp2_with fail
          refine (HPA.out _).mono ?_
          rintro e w1 ⟨ao, l, cap, rfl, h1, h2, hb1⟩
          have hbox1 := hboxR.below hb1
          have hbl1 := hbW.trans (hb1.mono hbW.size)
          clear hb1 hboxR hbW
          by_cases hA : okD L m = true
          · have hN1 := h1 hA
            have HA100 := hide (okD_lt hA)
            have HD100 : Hid (1 < 10000 ^ (m + 1)) := by rw [Hid]; exact Nat.one_lt_pow (by omega) (by omega)
            have HD0 : Hid ((1 : Nat) ≠ 0) := by rw [Hid]; omega
            have HYES : Hid (rdOk L m = true) := by rw [Hid, HRD.out, hA]
            have hN2 := hN1.alloc (.cells #[.int .i64 1] 3)
            have hbox2 := hbox1.alloc (.cells #[.int .i64 1] 3)
            have hbl2 := hbl1.alloc hbl1.size (.cells #[.int .i64 1] 3)
            have hone := nv_new w1 1 (by omega) (by omega)
            have hbx := hbox2
            obtain ⟨c0, c1, c2, c3, c4, c5, c6⟩ := hbx
            rw [hA]
            clear h1 h2 HRD hbox1 hbl1
            go_wp2_with fail
            refine (lowest_any _ neg _ _ (decVal L) (1) (m + 1) hN2 hone HA100.out HD100.out HD0.out (by omega)).mono ?_
            rintro e w5 ⟨t5, rfl, h5, hb5⟩
            obtain ⟨b5, o5, l5, k5, p5, n5, q5, rfl, hp1, hp2, hp3, hp4⟩ := h5.parts
            have hbox5 := hbox2.below hb5
            have hbl5 := hbl2.trans (hb5.mono hbl2.size)
            clear hb5 c0 c1 c2 c3 c4 c5 c6
            obtain ⟨c0, c1, c2, c3, c4, c5, c6⟩ := hbox5
            go_wp2
            exact bodyPost_ret (v := .tuple #[.agg #[.bool b5, .slice o5 l5 k5, .slice p5 n5 q5], .bool true]) (by simp [results, Tryz.results102, go_sem, c0, c1, c2]) rfl ⟨b5, o5, l5, k5, p5, n5, q5, by rw [HYES.out], fun _ => by rw [HE1.out, HE2.out]; exact numV_boxed hp1 hp2 hp3 hp4 c0 c1 c2, below_stored hbl5 (Nat.le_refl _) _ _ _⟩
          · have hAf : okD L m = false := by simpa using hA
            have HNO : Hid (rdOk L m = false) := by rw [Hid, HRD.out, hAf]
            rw [hAf]
            have hS := (Box3.stored (b := false) (a := none) (l := 0) (k := 0) (a2 := none) (l2 := 0) (k2 := 0) hbox1).alloc (.cells #[.int .i64 1] 3)
            obtain ⟨c0, c1, c2, c3, c4, c5, c6⟩ := hS
            obtain ⟨d0, d1, d2, d3, d4, d5, d6⟩ := hbox1
            go_wp2
            exact bodyPost_ret (v := .tuple #[.agg #[.bool false, .slice none 0 0, .slice none 0 0], .bool false]) (by simp [results, Tryz.results102, go_sem, c0, c1, c2]) rfl ⟨false, none, 0, 0, none, 0, 0, by rw [HNO.out], fun h => absurd (HNO.out.symm.trans h) (by decide), (below_stored hbl1 (Nat.le_refl _) _ _ _).alloc (by have := hbl1.size; simp; omega) _⟩
end Go.Proofs.YtnhfdcfnojnofaaGreatDoor.T

/-
  What the document's own Floor, Of do (package planesref).
-/
namespace Go.Proofs.YtnhfdcfnojnofaaGreatDoor.T
open Go.RowKit

theorem NV.stored {w : World} {x : Value} {n : Nat} (hx : NV w x n) {g : Nat} {b0 b : Bool} {a0 a a1 a2 : Option Addr} {l0 k0 l k l1 k1 l2 k2 : Nat} (h : Box3 w g (.bool b0) (.slice a0 l0 k0) (.slice a1 l1 k1)) : NV (((w.setCell ⟨g, 0, none⟩ (.bool b)).setCell ⟨g, 1, none⟩ (.slice a l k)).setCell ⟨g, 2, none⟩ (.slice a2 l2 k2)) x n := by
  obtain ⟨d0, d1, d2, d3, d4, d5, d6⟩ := h
  have e1 : (w.setCell ⟨g, 0, none⟩ (.bool b)).cell? ⟨g, 1, none⟩ = some (.slice a0 l0 k0) := by rw [World.cell?_setCell_other _ _ _ _ (by simp)]; exact d1
  have e2 : ((w.setCell ⟨g, 0, none⟩ (.bool b)).setCell ⟨g, 1, none⟩ (.slice a l k)).cell? ⟨g, 2, none⟩ = some (.slice a1 l1 k1) := by
    rw [World.cell?_setCell_other _ _ _ _ (by simp), World.cell?_setCell_other _ _ _ _ (by simp)]; exact d2
  exact ((hx.setCell d0 (by simp) _).setCell e1 (by simp) _).setCell e2 (by simp) _

/-- A number and a new 1 beneath it, laid into a box. -/
theorem numV_over1 {w : World} {g : Nat} {b0 b : Bool} {a0 a1 o1 : Option Addr} {l0 c0 l1 c1 lx kx : Nat} {p : Int} (hv : NV w (.slice o1 lx kx) p.natAbs) (hb : Hid (b = decide (p < 0))) (h : Box3 w g (.bool b0) (.slice a0 l0 c0) (.slice a1 l1 c1)) :
    NumV ((((w.setCell ⟨g, 0, none⟩ (.bool b)).setCell ⟨g, 1, none⟩ (.slice o1 lx kx)).setCell ⟨g, 2, none⟩ (.slice (some ⟨w.heap.size, 0, none⟩) 1 1)).alloc (.cells #[.int .i64 1] 3)) (.agg #[.bool b, .slice o1 lx kx, .slice (some ⟨w.heap.size, 0, none⟩) 1 1]) p 1 := by
  refine ⟨b, _, _, rfl, (hv.stored h).alloc _, hb, ?_, by omega⟩
  have h1 := nv_new (((w.setCell ⟨g, 0, none⟩ (.bool b)).setCell ⟨g, 1, none⟩ (.slice o1 lx kx)).setCell ⟨g, 2, none⟩ (.slice (some ⟨w.heap.size, 0, none⟩) 1 1)) 1 (by omega) (by omega)
  simpa using h1

end Go.Proofs.YtnhfdcfnojnofaaGreatDoor.T

/-
  What the document's own Calc does (package planesref).
-/
namespace Go.Proofs.YtnhfdcfnojnofaaGreatDoor.T
open Go.RowKit

/-- Is the text a number's? -/
def rOk (l : List UInt8) : Bool := rdOk (Lib.trimPrefix l [45]) 40
/-- The number without its sign and before it is in lowest terms, above and beneath. -/
def rA (l : List UInt8) : Nat := decVal (Lib.cut (Lib.trimPrefix l [45]) [47]).1
def rD (l : List UInt8) : Nat := rdDown (Lib.trimPrefix l [45])
/-- The number in lowest terms. -/
def rP (l : List UInt8) : Int := sg (Lib.hasPrefix l [45]) (rA l) / (Nat.gcd (rA l) (rD l) : Int)
def rQ (l : List UInt8) : Nat := rD l / Nat.gcd (rA l) (rD l)

theorem okD_ten {A : List UInt8} {m : Nat} (h : okD A m = true) : decVal A < 10 ^ m := by
  unfold okD at h
  simp only [Bool.and_eq_true, decide_eq_true_eq] at h
  exact Nat.lt_of_lt_of_le (decVal_lt h.2.2) (Nat.pow_le_pow_right (by omega) h.2.1)

theorem read_40 (s : ByteArray) (w : World) (hs : s.size ≤ 9223372036854775807) :
    Calls Tryz.prog 102 #[.string s, .int .i64 40] w fun e w' => ∃ b ao l cap ao' l' cap', e = .returned (.tuple #[.agg #[.bool b, .slice ao l cap, .slice ao' l' cap'], .bool (rOk s.data.toList)]) ∧
      (rOk s.data.toList = true → NumV w' (.agg #[.bool b, .slice ao l cap, .slice ao' l' cap']) (rP s.data.toList) (rQ s.data.toList)) ∧ Below w.heap.size w w' :=
  read_any s 40 w hs (by omega)

/-- What comes of it: the text, and the error's number. -/
def resT (op : Int) (p r : Int) (q s : Nat) : List UInt8 × Int :=
  if op = 1 then (lowText (p * s + r * q) (q * s), 0) else if op = 2 then (lowText (p * s + (-r) * q) (q * s), 0) else if op = 3 then (lowText (p * r) (q * s), 0)
  else if op = 4 then (if r = 0 then ([], 3) else (lowText (p * s * r.sign) (q * r.natAbs), 0)) else if op = 5 then (Lib.itoa (p / (q : Int)), 0) else (Lib.itoa (if p * (s : Int) < r * (q : Int) then 1 else 0), 0)

end Go.Proofs.YtnhfdcfnojnofaaGreatDoor.T
