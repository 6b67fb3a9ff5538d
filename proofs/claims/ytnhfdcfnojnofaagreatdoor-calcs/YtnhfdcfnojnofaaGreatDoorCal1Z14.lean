/-
  Part 14 of the texts ahead of Cal1: Tr14, Tr11, Tr15, Tr16, Txt12.
-/
import Derived.Test.YtnhfdcfnojnofaaGreatDoorCal1Z13
import Derived.Test.YtnhfdcfnojnofaaGreatDoorCal1Z9
import Derived.Deep.DeepCutAuto
import Derived.Test.YtnhfdcfnojnofaaGreatDoorCal1Z10
import Derived.Test.YtnhfdcfnojnofaaGreatDoorCal1Z12
set_option linter.unusedSimpArgs false
set_option linter.unusedVariables false
/-
  What the document's own Read does (package planesref).
-/
namespace Go.Proofs.YtnhfdcfnojnofaaGreatDoor.T
open Go.RowKit

/-- Digits, at least one and at most m. -/
def okD (l : List UInt8) (m : Nat) : Bool := decide (l ≠ []) && (decide (l.length ≤ m) && allDig l)

theorem places_all (s : ByteArray) (m : Nat) (w : World) (hs : s.size ≤ 9223372036854775807) (hm : m ≤ 1000000) :
    Calls Tryz.prog 182 #[.string s, .int .i64 (m : Nat)] w fun e w' => ∃ ao l cap, e = .returned (.tuple #[.slice ao l cap, .bool (okD s.data.toList m)]) ∧ (okD s.data.toList m = true → NV w' (.slice ao l cap) (decVal s.data.toList)) ∧ (okD s.data.toList m = false → l = 0) ∧ Below w.heap.size w w' := by
  by_cases h : s = ⟨#[]⟩ ∨ m < s.size
  · have e : okD s.data.toList m = false := by
      rcases h with rfl | h
      · rfl
      · have : ¬ s.data.toList.length ≤ m := by rw [toList_len]; omega
        unfold okD
        rw [decide_eq_false this, Bool.false_and, Bool.and_false]
    refine (places_out s m w h hs hm).mono ?_
    rintro e' w' ⟨rfl, rfl⟩
    rw [e]
    exact ⟨none, 0, 0, rfl, fun h => by simp at h, fun _ => rfl, Below.refl _ _⟩
  · rw [not_or] at h
    have h0 : 0 < s.size := by
      rcases Nat.eq_zero_or_pos s.size with h' | h'
      · exact absurd (ByteArray.ext (Array.eq_empty_of_size_eq_zero h')) h.1
      · exact h'
    have e : okD s.data.toList m = allDig s.data.toList := by
      have h1 : s.data.toList ≠ [] := by
        intro e
        have := toList_len s
        rw [e] at this
        simp at this
        omega
      have h2 : s.data.toList.length ≤ m := by rw [toList_len]; omega
      unfold okD
      rw [decide_eq_true h1, decide_eq_true h2, Bool.true_and, Bool.true_and]
    refine (places_any s m w h0 (by omega) hm).mono ?_
    rintro e' w' ⟨x, rfl, h1, h2, hb⟩
    rw [e]
    by_cases ha : allDig s.data.toList = true
    · obtain ⟨ao, l, cap, rfl⟩ := (h1 ha).slice
      exact ⟨ao, l, cap, rfl, h1, fun h => by rw [ha] at h; simp at h, hb⟩
    · have ha' : allDig s.data.toList = false := by simpa using ha
      have := h2 ha'
      subst this
      exact ⟨none, 0, 0, rfl, h1, fun _ => rfl, hb⟩

/-- What is read of a text: is it a number's; its parts. -/
def rdOk (T : List UInt8) (m : Nat) : Bool := okD (Lib.cut T [47]).1 m && (!(Lib.cut T [47]).2.2 || (okD (Lib.cut T [47]).2.1 m && decide (decVal (Lib.cut T [47]).2.1 ≠ 0)))
def rdDown (T : List UInt8) : Nat := if (Lib.cut T [47]).2.2 then decVal (Lib.cut T [47]).2.1 else 1

theorem okD_lt {A : List UInt8} {m : Nat} (h : okD A m = true) : decVal A < 10000 ^ (m + 1) := by
  unfold okD at h
  simp only [Bool.and_eq_true, decide_eq_true_eq] at h
  have h1 := decVal_lt h.2.2
  rw [pow4]
  exact Nat.lt_of_lt_of_le h1 (Nat.pow_le_pow_right (by omega) (by omega))

theorem cut_here {T : List UInt8} {k : Nat} (hk : k < T.length) (h47 : T[k] = 47) (hno : ∀ i (h : i < k), T[i]'(by omega) ≠ 47) : Lib.cut T [47] = (T.take k, T.drop (k + 1), true) := by
  have e : T = T.take k ++ 47 :: T.drop (k + 1) := by
    conv => lhs; rw [← List.take_append_drop k T, List.drop_eq_getElem_cons hk, h47]
  conv => lhs; rw [e]
  refine cut_at _ _ ?_
  intro c hc
  obtain ⟨i, hi, rfl⟩ := List.getElem_of_mem hc
  rw [List.getElem_take]
  exact hno i (by rw [List.length_take] at hi; omega)

theorem cut_not {T : List UInt8} (hno : ∀ i (h : i < T.length), T[i] ≠ 47) : Lib.cut T [47] = (T, [], false) := by
  refine cut_none T ?_
  intro c hc
  obtain ⟨i, hi, rfl⟩ := List.getElem_of_mem hc
  exact hno i hi

set_option maxHeartbeats 4000000 in
set_option maxRecDepth 100000 in
theorem read_any (s : ByteArray) (m : Nat) (w : World) (hs : s.size ≤ 9223372036854775807) (hm : m ≤ 400) :
    Calls Tryz.prog 102 #[.string s, .int .i64 (m : Nat)] w fun e w' => ∃ b ao l cap ao' l' cap', e = .returned (.tuple #[.agg #[.bool b, .slice ao l cap, .slice ao' l' cap'], .bool (rdOk (Lib.trimPrefix s.data.toList [45]) m)]) ∧
      (rdOk (Lib.trimPrefix s.data.toList [45]) m = true → NumV w' (.agg #[.bool b, .slice ao l cap, .slice ao' l' cap']) (sg (Lib.hasPrefix s.data.toList [45]) (decVal (Lib.cut (Lib.trimPrefix s.data.toList [45]) [47]).1) / (Nat.gcd (decVal (Lib.cut (Lib.trimPrefix s.data.toList [45]) [47]).1) (rdDown (Lib.trimPrefix s.data.toList [45])) : Int)) (rdDown (Lib.trimPrefix s.data.toList [45]) / Nat.gcd (decVal (Lib.cut (Lib.trimPrefix s.data.toList [45]) [47]).1) (rdDown (Lib.trimPrefix s.data.toList [45])))) ∧ Below w.heap.size w w' := by
  have hboxR : Box3 (w.alloc (.cells #[.bool false, .slice none 0 0, .slice none 0 0] 118)) w.heap.size (.bool false) (.slice none 0 0) (.slice none 0 0) := Box3.new _ _ _ _ _
  have hbW : Below w.heap.size w (w.alloc (.cells #[.bool false, .slice none 0 0, .slice none 0 0] 118)) := (Below.refl _ _).alloc (Nat.le_refl _) _
  obtain ⟨T, hT⟩ : ∃ T : ByteArray, T.data.toList = Lib.trimPrefix s.data.toList [45] := ⟨⟨(Lib.trimPrefix s.data.toList [45]).toArray⟩, by simp⟩
  obtain ⟨neg, hneg⟩ : ∃ neg, Lib.hasPrefix s.data.toList [45] = neg := ⟨_, rfl⟩
  rw [← hT, hneg]
  have hTs : T.size ≤ s.size := by
    rw [← toList_len T, ← toList_len s, hT, Lib.trimPrefix]
    split
    · simp
    · exact Nat.le_refl _
  have HNEG : Hid ((s = ⟨#[]⟩ → neg = false ∧ T = s) ∧ (∀ h : 0 < s.size, s[0].toNat = 45 → neg = true ∧ T = s.extract 1 s.size) ∧ (∀ h : 0 < s.size, s[0].toNat ≠ 45 → neg = false ∧ T = s)) := by
    rw [Hid]
    obtain ⟨⟨l⟩⟩ := s
    have hT' : T.data.toList = Lib.trimPrefix l [45] := hT
    have hneg' : Lib.hasPrefix l [45] = neg := hneg
    refine ⟨fun e => ?_, fun h e => ?_, fun h e => ?_⟩
    · obtain rfl : l = [] := by simpa using e
      exact ⟨by rw [← hneg']; rfl, ba_of hT'⟩
    · cases l with
      | nil => simp [ByteArray.size] at h
      | cons c r =>
        obtain rfl : c = 45 := UInt8.toNat.inj e
        refine ⟨by rw [← hneg']; simp [Lib.hasPrefix], ?_⟩
        rw [ba_of hT']
        apply Eq.symm
        apply ba_of
        rw [Lib.extract_to_end]
        simp [Lib.trimPrefix, Lib.hasPrefix]
    · cases l with
      | nil => simp [ByteArray.size] at h
      | cons c r =>
        have hc : c ≠ 45 := by rintro rfl; exact e rfl
        have hp : Lib.hasPrefix (c :: r) [45] = false := by simp [Lib.hasPrefix, List.isPrefixOf, Ne.symm hc]
        exact ⟨by rw [← hneg', hp], ba_of (by rw [hT', Lib.trimPrefix, hp]; rfl)⟩
  clear hT hneg
  have hTz : T.size ≤ 9223372036854775807 := by omega
  obtain ⟨L, hL⟩ : ∃ L, T.data.toList = L := ⟨_, rfl⟩
  have hLs : L.length = T.size := by rw [← hL]; exact toList_len T
  have HG : Hid (∀ (I : Nat) (h : I < T.size), T[I] = L[I]'(by omega)) := by
    rw [Hid]
    intro I h
    subst hL
    rfl
  rw [hL]
  have HL := hide hL
  clear hL
  generalize hwA : w.alloc (.cells #[.bool false, .slice none 0 0, .slice none 0 0] 118) = wA at *
  go_enter Tryz.func102, Tryz.ntmps102
  go_upto_region 1 with fail
  clear hwA
  go_cut [6] (fun v wc => v = .bool neg ∧ wA = wc)
  case first =>
    by_cases he : s = ⟨#[]⟩
    · obtain ⟨rfl, _⟩ := HNEG.out.1 he
      subst he
      clear HNEG
      go_wp2_with fail
      all_goals go_meet
      all_goals exact ⟨rfl, rfl⟩
    · have h0 : 0 < s.size := by
        rcases Nat.eq_zero_or_pos s.size with h' | h'
        · exact absurd (ByteArray.ext (Array.eq_empty_of_size_eq_zero h')) he
        · exact h'
      have h0i : (0 : Int) < (s.size : Int) := by omega
      by_cases hc : (s[0].toNat : Int) = 45
      · obtain ⟨rfl, _⟩ := HNEG.out.2.1 h0 (by omega)
        clear HNEG
        go_wp2_with fail
        all_goals go_meet
        all_goals exact ⟨rfl, rfl⟩
      · obtain ⟨rfl, _⟩ := HNEG.out.2.2 h0 (by omega)
        clear HNEG
        go_wp2_with fail
        all_goals go_meet
        all_goals exact ⟨by simp [hc], rfl⟩
  case rest =>
    obtain ⟨rfl, rfl⟩ := hcut
    have HN2 : Hid ((neg = true → 0 < s.size ∧ T = s.extract 1 s.size) ∧ (neg = false → T = s)) := by
      rw [Hid]
      by_cases he : s = ⟨#[]⟩
      · obtain ⟨h1, h2⟩ := HNEG.out.1 he
        exact ⟨fun h => by rw [h1] at h; simp at h, fun _ => h2⟩
      · have h0 : 0 < s.size := by
          rcases Nat.eq_zero_or_pos s.size with h' | h'
          · exact absurd (ByteArray.ext (Array.eq_empty_of_size_eq_zero h')) he
          · exact h'
        by_cases hc : s[0].toNat = 45
        · obtain ⟨h1, h2⟩ := HNEG.out.2.1 h0 hc
          exact ⟨fun _ => ⟨h0, h2⟩, fun h => by rw [h1] at h; simp at h⟩
        · obtain ⟨h1, h2⟩ := HNEG.out.2.2 h0 hc
          exact ⟨fun h => by rw [h1] at h; simp at h, fun _ => h2⟩
    clear HNEG
    go_upto_if 19 with fail
    go_cut [0] (fun v wc => v = .string T ∧ wA = wc)
    case first =>
      cases neg with
      | true =>
        obtain ⟨h0, hTe⟩ := HN2.out.1 rfl
        have HTE := hide hTe
        clear HN2 hTe
        go_wp2_with fail
        all_goals go_meet
        all_goals exact ⟨by rw [HTE.out], rfl⟩
      | false =>
        have hTe := HN2.out.2 rfl
        subst hTe
        clear HN2
        go_wp2_with fail
        all_goals go_meet
        all_goals exact ⟨rfl, rfl⟩
    case rest =>
      obtain ⟨rfl, rfl⟩ := hcut
      clear HN2
      clear hs hTs
      go_wp2_with fail
      go_loop [7] (fun v => ∃ k : Nat, k ≤ T.size ∧ v = .int .i64 (k : Nat) ∧ Hid (∀ i (h : i < k) (h' : i < L.length), L[i] ≠ 47)) (fun v => ((T.size : Int) - intOf v).toNat)
      case atStart => exact ⟨0, by omega, rfl, by rw [Hid]; intro i h; omega⟩
      case round =>
        obtain ⟨k, hk, rfl, hno⟩ := hrel
        by_cases hkT : k < T.size
        · have hkTi : (k : Int) < (T.size : Int) := by omega
          have hgk := HG.out k hkT
          by_cases h47 : (T[k].toNat : Int) = 47
          · have hc47 : L[k]'(by omega) = 47 := by
              rw [← hgk]
              exact UInt8.toNat.inj (by have : T[k].toNat = 47 := by omega
                                        exact this)
            have hcut := cut_here (T := L) (by omega) hc47 (fun i h => hno.out i h (by omega))
            clear hgk hc47 hno
            have HE1 : Hid ((Lib.cut L [47]).1 = L.take k) := by rw [Hid, hcut]
            have HE2 : Hid (rdDown L = decVal (L.drop (k + 1))) := by rw [Hid, rdDown, hcut]; rfl
            have HRD : Hid (rdOk L m = (okD (L.take k) m && (okD (L.drop (k + 1)) m && decide (decVal (L.drop (k + 1)) ≠ 0)))) := by rw [Hid, rdOk, hcut]; rfl
            have eA : (T.extract 0 k).data.toList = L.take k := by rw [Lib.extract_data, List.drop_zero, Nat.sub_zero, HL.out]
            have eB : (T.extract (k + 1) T.size).data.toList = L.drop (k + 1) := by rw [Lib.extract_to_end, HL.out]
            have hpA := fun W => places_all (T.extract 0 k) m W (by rw [← toList_len, eA, List.length_take]; omega) (by omega)
            have hpB := fun W => places_all (T.extract (k + 1) T.size) m W (by rw [← toList_len, eB, List.length_drop]; omega) (by omega)
            simp only [eA] at hpA
            simp only [eB] at hpB
            have HPA := hide hpA
            have HPB := hide hpB
            clear hpA hpB eA eB hcut
            generalize L.take k = A at *
            generalize L.drop (k + 1) = B at *
            go_wp2_with fail
            refine (HPA.out _).mono ?_
            rintro e w1 ⟨ao, l, cap, rfl, h1, h2, hb1⟩
            have hbox1 := hboxR.below hb1
            have hbl1 := hbW.trans (hb1.mono hbW.size)
            clear hb1 hboxR hbW
            by_cases hA : okD A m = true
            · have hN1 := h1 hA
              have HA100 := hide (okD_lt hA)
              have HRD2 : Hid (rdOk L m = (okD B m && decide (decVal B ≠ 0))) := by rw [Hid, HRD.out, hA, Bool.true_and]
              have hN2 := hN1.alloc (.cells #[.int .i64 1] 3)
              have hbox2 := hbox1.alloc (.cells #[.int .i64 1] 3)
              have hbl2 := hbl1.alloc hbl1.size (.cells #[.int .i64 1] 3)
              rw [hA]
              clear h1 h2 HRD
              go_wp2_with fail
              refine (HPB.out _).mono ?_
              rintro e w3 ⟨bo, l', cap', rfl, g1, g2, hb3⟩
              have hN3 := hN2.below hb3
              have hbox3 := hbox2.below hb3
              have hbl3 := hbl2.trans (hb3.mono hbl2.size)
              clear hb3 hbox2 hbl2 hN2 hbox1 hbl1 hN1
              have hbx := hbox3
              obtain ⟨c0, c1, c2, c3, c4, c5, c6⟩ := hbx
              by_cases hB : okD B m = true
              · have hD := g1 hB
                have HD100 := hide (okD_lt hB)
                have hll := nv_len hD HD100.out
                rw [hB]
                by_cases hd0 : decVal B = 0
                · have hl0 : l' = 0 := hll.2.2 hd0
                  have HNO : Hid (rdOk L m = false) := by rw [Hid, HRD2.out, hB, decide_eq_false (fun h => h hd0)]; rfl
                  subst hl0
                  clear hll hd0
                  go_wp2
                  exact bodyPost_ret (v := .tuple #[.agg #[.bool false, .slice none 0 0, .slice none 0 0], .bool false]) (by simp [results, Tryz.results102, go_sem, c0, c1, c2]) rfl ⟨false, none, 0, 0, none, 0, 0, by rw [HNO.out], fun h => absurd (HNO.out.symm.trans h) (by decide), below_stored hbl3 (Nat.le_refl _) _ _ _⟩
                · have HYES : Hid (rdOk L m = true) := by rw [Hid, HRD2.out, hB, decide_eq_true hd0]; rfl
                  have HD0 := hide hd0
                  have hl0 : ¬ l' = 0 := fun e => hd0 (hll.2.1 e)
                  have hl0i : (l' : Int) ≠ 0 := by omega
                  clear hll hd0
                  go_wp2_with fail
                  refine (lowest_any _ neg _ _ (decVal A) (decVal B) (m + 1) hN3 hD HA100.out HD100.out HD0.out (by omega)).mono ?_
                  rintro e w5 ⟨t5, rfl, h5, hb5⟩
                  obtain ⟨b5, o5, l5, k5, p5, n5, q5, rfl, hp1, hp2, hp3, hp4⟩ := h5.parts
                  have hbox5 := hbox3.below hb5
                  have hbl5 := hbl3.trans (hb5.mono hbl3.size)
                  clear hb5 c0 c1 c2 c3 c4 c5 c6
                  obtain ⟨c0, c1, c2, c3, c4, c5, c6⟩ := hbox5
                  go_wp2
                  exact bodyPost_ret (v := .tuple #[.agg #[.bool b5, .slice o5 l5 k5, .slice p5 n5 q5], .bool true]) (by simp [results, Tryz.results102, go_sem, c0, c1, c2]) rfl ⟨b5, o5, l5, k5, p5, n5, q5, by rw [HYES.out], fun _ => by rw [HE1.out, HE2.out]; exact numV_boxed hp1 hp2 hp3 hp4 c0 c1 c2, below_stored hbl5 (Nat.le_refl _) _ _ _⟩
              · have hBf : okD B m = false := by simpa using hB
                have HNO : Hid (rdOk L m = false) := by rw [Hid, HRD2.out, hBf]; rfl
                rw [hBf]
                go_wp2
                exact bodyPost_ret (v := .tuple #[.agg #[.bool false, .slice none 0 0, .slice none 0 0], .bool false]) (by simp [results, Tryz.results102, go_sem, c0, c1, c2]) rfl ⟨false, none, 0, 0, none, 0, 0, by rw [HNO.out], fun h => absurd (HNO.out.symm.trans h) (by decide), below_stored hbl3 (Nat.le_refl _) _ _ _⟩
            · have hAf : okD A m = false := by simpa using hA
              have HNO : Hid (rdOk L m = false) := by rw [Hid, HRD.out, hAf]; rfl
              rw [hAf]
              have hS := (Box3.stored (b := false) (a := none) (l := 0) (k := 0) (a2 := none) (l2 := 0) (k2 := 0) hbox1).alloc (.cells #[.int .i64 1] 3)
              obtain ⟨c0, c1, c2, c3, c4, c5, c6⟩ := hS
              obtain ⟨d0, d1, d2, d3, d4, d5, d6⟩ := hbox1
              go_wp2
              exact bodyPost_ret (v := .tuple #[.agg #[.bool false, .slice none 0 0, .slice none 0 0], .bool false]) (by simp [results, Tryz.results102, go_sem, c0, c1, c2]) rfl ⟨false, none, 0, 0, none, 0, 0, by rw [HNO.out], fun h => absurd (HNO.out.symm.trans h) (by decide), (below_stored hbl1 (Nat.le_refl _) _ _ _).alloc (by have := hbl1.size; simp; omega) _⟩
          · have HNX : Hid (∀ i (h : i < k + 1) (h' : i < L.length), L[i] ≠ 47) := by
              rw [Hid]
              intro i h h'
              by_cases hik : i = k
              · subst hik
                rw [← hgk]
                intro e
                rw [e] at h47
                exact h47 rfl
              · exact hno.out i (by omega) h'
            clear hgk hno
            go_wp2
            go_round
            case rel => exact ⟨k + 1, by omega, by go_num, HNX⟩
            case measure => simp [intOf]; omega
        · obtain rfl : k = T.size := by omega
          have hcut := cut_not (T := L) (fun i h => hno.out i (by omega) h)
          clear hno
          have HE1 : Hid ((Lib.cut L [47]).1 = L) := by rw [Hid, hcut]
          have HE2 : Hid (rdDown L = 1) := by rw [Hid, rdDown, hcut]; rfl
          have HRD : Hid (rdOk L m = okD L m) := by rw [Hid, rdOk, hcut]; simp
          have eA : T.data.toList = L := HL.out
          have hpA := fun W => places_all T m W hTz (by omega)
          simp only [eA] at hpA
          have HPA := hide hpA
          clear hpA eA hcut
          go_wp2_with fail
          refine (HPA.out _).mono ?_
          rintro e w1 ⟨ao, l, cap, rfl, h1, h2, hb1⟩
          have hbox1 := hboxR.below hb1
          have hbl1 := hbW.trans (hb1.mono hbW.size)
          clear hb1 hboxR hbW
          by_cases hA : okD L m = true
          · have hN1 := h1 hA
            have HA100 := hide (okD_lt hA)
            have HD100 : Hid (1 < 10000 ^ (m + 1)) := by rw [Hid]; exact Nat.one_lt_pow (by omega) (by omega)
            have HD0 : Hid ((1 : Nat) ≠ 0) := by rw [Hid]; omega
            have HYES : Hid (rdOk L m = true) := by rw [Hid, HRD.out, hA]
            have hN2 := hN1.alloc (.cells #[.int .i64 1] 3)
            have hbox2 := hbox1.alloc (.cells #[.int .i64 1] 3)
            have hbl2 := hbl1.alloc hbl1.size (.cells #[.int .i64 1] 3)
            have hone := nv_new w1 1 (by omega) (by omega)
            have hbx := hbox2
            obtain ⟨c0, c1, c2, c3, c4, c5, c6⟩ := hbx
            rw [hA]
            clear h1 h2 HRD hbox1 hbl1
            go_wp2_with fail
            refine (lowest_any _ neg _ _ (decVal L) (1) (m + 1) hN2 hone HA100.out HD100.out HD0.out (by omega)).mono ?_
            rintro e w5 ⟨t5, rfl, h5, hb5⟩
            obtain ⟨b5, o5, l5, k5, p5, n5, q5, rfl, hp1, hp2, hp3, hp4⟩ := h5.parts
            have hbox5 := hbox2.below hb5
            have hbl5 := hbl2.trans (hb5.mono hbl2.size)
            clear hb5 c0 c1 c2 c3 c4 c5 c6
            obtain ⟨c0, c1, c2, c3, c4, c5, c6⟩ := hbox5
            go_wp2
            exact bodyPost_ret (v := .tuple #[.agg #[.bool b5, .slice o5 l5 k5, .slice p5 n5 q5], .bool true]) (by simp [results, Tryz.results102, go_sem, c0, c1, c2]) rfl ⟨b5, o5, l5, k5, p5, n5, q5, by rw [HYES.out], fun _ => by rw [HE1.out, HE2.out]; exact numV_boxed hp1 hp2 hp3 hp4 c0 c1 c2, below_stored hbl5 (Nat.le_refl _) _ _ _⟩
          · have hAf : okD L m = false := by simpa using hA
            have HNO : Hid (rdOk L m = false) := by rw [Hid, HRD.out, hAf]
            rw [hAf]
            have hS := (Box3.stored (b := false) (a := none) (l := 0) (k := 0) (a2 := none) (l2 := 0) (k2 := 0) hbox1).alloc (.cells #[.int .i64 1] 3)
            obtain ⟨c0, c1, c2, c3, c4, c5, c6⟩ := hS
            obtain ⟨d0, d1, d2, d3, d4, d5, d6⟩ := hbox1
            go_wp2
            exact bodyPost_ret (v := .tuple #[.agg #[.bool false, .slice none 0 0, .slice none 0 0], .bool false]) (by simp [results, Tryz.results102, go_sem, c0, c1, c2]) rfl ⟨false, none, 0, 0, none, 0, 0, by rw [HNO.out], fun h => absurd (HNO.out.symm.trans h) (by decide), (below_stored hbl1 (Nat.le_refl _) _ _ _).alloc (by have := hbl1.size; simp; omega) _⟩
end Go.Proofs.YtnhfdcfnojnofaaGreatDoor.T

/-
  What the document's own Floor, Of do (package planesref).
-/
namespace Go.Proofs.YtnhfdcfnojnofaaGreatDoor.T
open Go.RowKit

theorem NV.stored {w : World} {x : Value} {n : Nat} (hx : NV w x n) {g : Nat} {b0 b : Bool} {a0 a a1 a2 : Option Addr} {l0 k0 l k l1 k1 l2 k2 : Nat} (h : Box3 w g (.bool b0) (.slice a0 l0 k0) (.slice a1 l1 k1)) : NV (((w.setCell ⟨g, 0, none⟩ (.bool b)).setCell ⟨g, 1, none⟩ (.slice a l k)).setCell ⟨g, 2, none⟩ (.slice a2 l2 k2)) x n := by
  obtain ⟨d0, d1, d2, d3, d4, d5, d6⟩ := h
  have e1 : (w.setCell ⟨g, 0, none⟩ (.bool b)).cell? ⟨g, 1, none⟩ = some (.slice a0 l0 k0) := by rw [World.cell?_setCell_other _ _ _ _ (by simp)]; exact d1
  have e2 : ((w.setCell ⟨g, 0, none⟩ (.bool b)).setCell ⟨g, 1, none⟩ (.slice a l k)).cell? ⟨g, 2, none⟩ = some (.slice a1 l1 k1) := by
    rw [World.cell?_setCell_other _ _ _ _ (by simp), World.cell?_setCell_other _ _ _ _ (by simp)]; exact d2
  exact ((hx.setCell d0 (by simp) _).setCell e1 (by simp) _).setCell e2 (by simp) _

/-- A number and a new 1 beneath it, laid into a box. -/
theorem numV_over1 {w : World} {g : Nat} {b0 b : Bool} {a0 a1 o1 : Option Addr} {l0 c0 l1 c1 lx kx : Nat} {p : Int} (hv : NV w (.slice o1 lx kx) p.natAbs) (hb : Hid (b = decide (p < 0))) (h : Box3 w g (.bool b0) (.slice a0 l0 c0) (.slice a1 l1 c1)) :
    NumV ((((w.setCell ⟨g, 0, none⟩ (.bool b)).setCell ⟨g, 1, none⟩ (.slice o1 lx kx)).setCell ⟨g, 2, none⟩ (.slice (some ⟨w.heap.size, 0, none⟩) 1 1)).alloc (.cells #[.int .i64 1] 3)) (.agg #[.bool b, .slice o1 lx kx, .slice (some ⟨w.heap.size, 0, none⟩) 1 1]) p 1 := by
  refine ⟨b, _, _, rfl, (hv.stored h).alloc _, hb, ?_, by omega⟩
  have h1 := nv_new (((w.setCell ⟨g, 0, none⟩ (.bool b)).setCell ⟨g, 1, none⟩ (.slice o1 lx kx)).setCell ⟨g, 2, none⟩ (.slice (some ⟨w.heap.size, 0, none⟩) 1 1)) 1 (by omega) (by omega)
  simpa using h1

theorem neg_flag (l D : Nat) (h : l = 0 ↔ D = 0) : decide (0 < l) = decide (-(D : Int) < 0) :=
  decide_eq_decide.2 ⟨fun h1 => by have := fun e => (Nat.pos_iff_ne_zero.1 h1) (h.2 e); omega, fun h1 => Nat.pos_of_ne_zero fun e => by have := h.1 e; omega⟩

theorem floor_nonneg (p : Int) (q : Nat) (hp : ¬ p < 0) : ((p.natAbs / q : Nat) : Int) = p / (q : Int) := by
  rw [Int.natCast_ediv, show (p.natAbs : Int) = p by omega]

theorem floor_neg0 (p : Int) (q : Nat) (hq : 0 < q) (hp : p < 0) (hr : p.natAbs % q = 0) : p / (q : Int) = -((p.natAbs / q : Nat) : Int) := by
  have hd : (q : Int) ∣ (p.natAbs : Int) := Int.ofNat_dvd.2 (Nat.dvd_of_mod_eq_zero hr)
  have e : p = -(p.natAbs : Int) := by omega
  rw [Int.natCast_ediv]
  conv => lhs; rw [e]
  exact Int.neg_ediv_of_dvd hd

theorem floor_neg1 (p : Int) (q : Nat) (hq : 0 < q) (hp : p < 0) (hr : p.natAbs % q ≠ 0) : p / (q : Int) = -((p.natAbs / q + 1 : Nat) : Int) := by
  have h1 := Nat.div_add_mod p.natAbs q
  have h2 := Nat.mod_lt p.natAbs hq
  have e : p = (q : Int) * (-((p.natAbs / q + 1 : Nat) : Int)) + ((q - p.natAbs % q : Nat) : Int) := by
    have e1 : (q : Int) * (-((p.natAbs / q + 1 : Nat) : Int)) = -((q * (p.natAbs / q) + q : Nat) : Int) := by
      rw [Int.mul_neg, ← Int.natCast_mul, Nat.mul_add, Nat.mul_one]
    rw [e1]
    omega
  conv => lhs; rw [e]
  rw [Int.mul_add_ediv_left _ _ (by omega), Int.ediv_eq_zero_of_lt (by omega) (by omega), Int.add_zero]

set_option maxRecDepth 100000 in
set_option maxHeartbeats 2000000 in
theorem floor_any (K : Nat) (hK : K ≤ 10000000) (w : World) (x : Value) (p : Int) (q : Nat) (h : NumV w x p q) (hp : p.natAbs < 10000 ^ K) (hq : q < 10000 ^ K) :
    Calls Tryz.prog 106 #[x] w fun e w' => ∃ t, e = .returned t ∧ NumV w' t (p / (q : Int)) 1 ∧ Below w.heap.size w w' := by
  obtain ⟨b, ao, l, cap, ao', l', cap', rfl, hv, hb, hu, hq0⟩ := h.parts
  have hboxP : Box3 ((w.alloc (.cells #[.bool b, .slice ao l cap, .slice ao' l' cap'] 118)).alloc (.cells #[.bool false, .slice none 0 0, .slice none 0 0] 118)) w.heap.size (.bool b) (.slice ao l cap) (.slice ao' l' cap') := (Box3.new _ _ _ _ _).alloc _
  have hboxR : Box3 ((w.alloc (.cells #[.bool b, .slice ao l cap, .slice ao' l' cap'] 118)).alloc (.cells #[.bool false, .slice none 0 0, .slice none 0 0] 118)) (w.heap.size + 1) (.bool false) (.slice none 0 0) (.slice none 0 0) := Box3.new1 _ _ _ _ _ _
  have hbW := below2 w (.cells #[.bool b, .slice ao l cap, .slice ao' l' cap'] 118) (.cells #[.bool false, .slice none 0 0, .slice none 0 0] 118)
  have HB := hide hb.out
  have HQ0 := hide hq0
  clear hb
  go_enter Tryz.func106, Tryz.ntmps106
  go_wp2_with fail
  refine (divided_any _ _ _ p.natAbs q K ((hv.alloc _).alloc _) ((hu.alloc _).alloc _) hp hq (by omega) (by omega)).mono ?_
  rintro e w1 ⟨t1, t2, rfl, h1, h2, hb1⟩
  obtain ⟨o1, l1, k1, rfl⟩ := h1.slice
  obtain ⟨o2, l2, k2, rfl⟩ := h2.slice
  have hP1 := hboxP.below hb1
  have hR1 := hboxR.below hb1
  have hbl1 := hbW.trans (hb1.mono hbW.size)
  have hl1 := nv_len h1 (Nat.lt_of_le_of_lt (Nat.div_le_self _ _) hp)
  have hl2 := nv_len h2 (Nat.lt_of_le_of_lt (Nat.mod_le _ _) hp)
  clear hb1 hbW hboxP hboxR hv hu h
  obtain ⟨i0, i1, i2, i3, i4, i5, i6⟩ := hP1
  have hR := hR1
  obtain ⟨f0, f1, f2, f3, f4, f5, f6⟩ := hR
  cases b with
  | false =>
    have hpn : ¬ p < 0 := by have := HB.out; simp at this; omega
    have HF := hide (floor_nonneg p q hpn)
    have HFL : Hid (false = decide (p / (q : Int) < 0)) := by
      rw [Hid, ← HF.out]
      exact (decide_eq_false (Int.not_lt.2 (Int.natCast_nonneg _))).symm
    have HNV : Hid (NV w1 (.slice o1 l1 k1) (p / (q : Int)).natAbs) := by
      rw [Hid, ← HF.out, Int.natAbs_natCast]
      exact h1
    clear hl1 hl2 hpn
    have hS := (Box3.stored (b := false) (a := o1) (l := l1) (k := k1) (a2 := some ⟨w1.heap.size, 0, none⟩) (l2 := 1) (k2 := 1) hR1).alloc (.cells #[.int .i64 1] 3)
    obtain ⟨c0, c1, c2, c3, c4, c5, c6⟩ := hS
    go_wp2
    exact bodyPost_ret (v := .agg #[.bool false, .slice o1 l1 k1, .slice (some ⟨w1.heap.size, 0, none⟩) 1 1]) (by simp [results, Tryz.results106, go_sem, c0, c1, c2]) rfl ⟨_, rfl, numV_over1 HNV.out HFL hR1,
      (below_stored hbl1 (by omega) _ _ _).alloc (by have := hbl1.size; simp; omega) _⟩
  | true =>
    have hpn : p < 0 := by have := HB.out; simpa using this
    by_cases hr0 : l2 = 0
    · have HF := hide (floor_neg0 p q HQ0.out hpn (hl2.2.1 hr0))
      have HFL : Hid (decide (0 < l1) = decide (p / (q : Int) < 0)) := by
        rw [Hid, HF.out]
        exact neg_flag _ _ hl1.2
      have HNV : Hid (NV w1 (.slice o1 l1 k1) (p / (q : Int)).natAbs) := by
        rw [Hid, HF.out, Int.natAbs_neg, Int.natAbs_natCast]
        exact h1
      subst hr0
      clear hl1 hl2 hpn
      have hS := (Box3.stored (b := (decide (0 < l1))) (a := o1) (l := l1) (k := k1) (a2 := some ⟨w1.heap.size, 0, none⟩) (l2 := 1) (k2 := 1) hR1).alloc (.cells #[.int .i64 1] 3)
      obtain ⟨c0, c1, c2, c3, c4, c5, c6⟩ := hS
      go_wp2
      exact bodyPost_ret (v := .agg #[.bool (decide (0 < l1)), .slice o1 l1 k1, .slice (some ⟨w1.heap.size, 0, none⟩) 1 1]) (by simp [results, Tryz.results106, go_sem, c0, c1, c2]) rfl ⟨_, rfl, numV_over1 HNV.out HFL hR1,
        (below_stored hbl1 (by omega) _ _ _).alloc (by have := hbl1.size; simp; omega) _⟩
    · have HF := hide (floor_neg1 p q HQ0.out hpn (fun e => hr0 (hl2.2.2 e)))
      have hl20 : (0 : Int) < (l2 : Int) := by omega
      have hq1 : p.natAbs / q < 10000 ^ K := Nat.lt_of_le_of_lt (Nat.div_le_self _ _) hp
      have hone : 1 < 10000 ^ K := Nat.lt_of_le_of_lt HQ0.out hq
      have hN1 := nv_new w1 1 (by omega) (by omega)
      have h1a := h1.alloc (.cells #[.int .i64 1] 3)
      have hR1a := hR1.alloc (.cells #[.int .i64 1] 3)
      have hbl1a := hbl1.alloc hbl1.size (.cells #[.int .i64 1] 3)
      have hP1a := (show Box3 w1 w.heap.size (.bool true) (.slice ao l cap) (.slice ao' l' cap') from ⟨i0, i1, i2, i3, i4, i5, i6⟩).alloc (.cells #[.int .i64 1] 3)
      clear hl1 hl2 hpn h2
      go_wp2_with fail
      refine (plus_any _ _ _ (p.natAbs / q) 1 K h1a hN1 hq1 hone (by omega)).mono ?_
      rintro e w3 ⟨t3, rfl, h3, hb3⟩
      obtain ⟨o3, l3, k3, rfl⟩ := h3.slice
      have hR3 := hR1a.below hb3
      have hP3 := hP1a.below hb3
      have hbl3 := hbl1a.trans (hb3.mono hbl1a.size)
      have hl3 := nv_len h3 (K := K + 1) (by rw [Nat.pow_succ]; omega)
      have HFL : Hid (decide (0 < l3) = decide (p / (q : Int) < 0)) := by
        rw [Hid, HF.out]
        exact neg_flag _ _ hl3.2
      have HNV : Hid (NV w3 (.slice o3 l3 k3) (p / (q : Int)).natAbs) := by
        rw [Hid, HF.out, Int.natAbs_neg, Int.natAbs_natCast]
        exact h3
      clear hb3 hR1a hP1a hbl1a h1a hN1 hl3 i0 i1 i2 i3 i4 i5 i6 f0 f1 f2 f3 f4 f5 f6 hq1 hone
      obtain ⟨i0, i1, i2, i3, i4, i5, i6⟩ := hP3
      have hR := hR3
      obtain ⟨f0, f1, f2, f3, f4, f5, f6⟩ := hR
      have hS := (Box3.stored (b := (decide (0 < l3))) (a := o3) (l := l3) (k := k3) (a2 := some ⟨w3.heap.size, 0, none⟩) (l2 := 1) (k2 := 1) hR3).alloc (.cells #[.int .i64 1] 3)
      obtain ⟨c0, c1, c2, c3, c4, c5, c6⟩ := hS
      go_wp2
      exact bodyPost_ret (v := .agg #[.bool (decide (0 < l3)), .slice o3 l3 k3, .slice (some ⟨w3.heap.size, 0, none⟩) 1 1]) (by simp [results, Tryz.results106, go_sem, c0, c1, c2]) rfl ⟨_, rfl, numV_over1 HNV.out HFL hR3,
        (below_stored hbl3 (by omega) _ _ _).alloc (by have := hbl3.size; simp; omega) _⟩

end Go.Proofs.YtnhfdcfnojnofaaGreatDoor.T

/-
  What the document's own Of does with 0 and 1 (package planesref).
-/
namespace Go.Proofs.YtnhfdcfnojnofaaGreatDoor.T
open Go.RowKit

set_option maxHeartbeats 1000000 in
set_option maxRecDepth 100000 in
theorem of_zero (w : World) : Calls Tryz.prog 69 #[.int .i64 0] w fun e w' => ∃ t, e = .returned t ∧ NumV w' t 0 1 ∧ Below w.heap.size w w' := by
  have hN1 := nv_new (w.alloc (.cells #[.bool false, .slice none 0 0, .slice (some ⟨w.heap.size + 1, 0, none⟩) 1 1] 118)) 1 (by omega) (by omega)
  go_enter Tryz.func69, Tryz.ntmps69
  go_wp2
  go_loop [0, 3] (fun v l => v = .int .i64 0 ∧ l = .slice none 0 0) (fun v _ => (intOf v).toNat)
  case atStart => exact ⟨rfl, rfl⟩
  case round =>
    obtain ⟨rfl, rfl⟩ := hrel
    go_wp2
    exact bodyPost_ret (v := .agg #[.bool false, .slice none 0 0, .slice (some ⟨w.heap.size + 1, 0, none⟩) 1 1]) (by simp [results, Tryz.results69, go_sem]) rfl ⟨_, rfl, ⟨_, _, _, rfl, NV.zero _, by rw [Hid]; rfl, by simpa using hN1, by omega⟩, below2 w _ _⟩

set_option maxHeartbeats 1000000 in
set_option maxRecDepth 100000 in
theorem of_one (w : World) : Calls Tryz.prog 69 #[.int .i64 1] w fun e w' => ∃ t, e = .returned t ∧ NumV w' t 1 1 ∧ Below w.heap.size w w' := by
  obtain ⟨i0, hi, hz0, hz1, hz2⟩ := info_parts Tryz.infoInt
  have hboxR : Box3 (w.alloc (.cells #[.bool false, .slice none 0 0, .slice none 0 0] 118)) w.heap.size (.bool false) (.slice none 0 0) (.slice none 0 0) := Box3.new _ _ _ _ _
  have hbW : Below w.heap.size w (w.alloc (.cells #[.bool false, .slice none 0 0, .slice none 0 0] 118)) := (Below.refl _ _).alloc (Nat.le_refl _) _
  generalize hwA : w.alloc (.cells #[.bool false, .slice none 0 0, .slice none 0 0] 118) = wA at *
  go_enter Tryz.func69, Tryz.ntmps69
  go_wp2
  clear hwA
  go_loopw [0, 3] (fun nv lv wr => (nv = .int .i64 1 ∧ lv = .slice none 0 0 ∧ wA = wr) ∨ ∃ ao l cap, nv = .int .i64 0 ∧ lv = .slice ao l cap ∧ NV wr (.slice ao l cap) 1 ∧ Below wA.heap.size wA wr) (fun nv _ _ => (intOf nv).toNat)
  case atStart => exact Or.inl ⟨rfl, rfl, rfl⟩
  case round =>
    rcases hrel with ⟨rfl, rfl, rfl⟩ | ⟨ao, l, cap, rfl, rfl, hN, hbel⟩
    · go_wp2_with (at_builtin; refine wpList_append_own _ rfl _ _ 35 rfl wA.heap.size 3 i0 (.int .i64 0) 1 8 Tryz.underlying35 hi hz0 hz1 hz2 rfl (by decide) (.slice none 0 0) 0 [] rfl (World.ownsRow_nil _ _ _ _) ⟨wA.heap.size, 0, none⟩ 1 1 [.int .i64 1] rfl rfl (cell_one_new _ _ _) ?c2 (by unfold maxLen; omega) (by omega) (by simp) ?_)
      case c2 => first | rfl | (intro u hu; simp at hu; subst hu; rfl)
      intro v3 w3 hown3 hgrow hnn
      obtain ⟨g3, cap3, hvv, _⟩ := owns_parts (ds := [1]) hown3 hnn
      subst hvv
      have hb3 : Below wA.heap.size wA w3 := ((Below.refl _ _).alloc (Nat.le_refl _) _).grown hgrow (by simp) (fun k h => by simp [Value.ownBlock] at h)
      have hsl : Sl w3 (.slice (some ⟨g3, 0, none⟩) 1 cap3) [1] := sl_of_owns (os := [1]) hown3
      have hN3 : NV w3 (.slice (some ⟨g3, 0, none⟩) 1 cap3) 1 := ⟨[1], hsl, dig_one (by omega), top_one (by omega), val_one 1⟩
      clear hgrow hnn hown3
      go_wp2
      go_roundw
      case rel => exact Or.inr ⟨_, _, _, rfl, rfl, hN3, hb3⟩
      case measure => simp [intOf]
    · have hR := hboxR.below hbel
      have hbl := hbW.trans (hbel.mono hbW.size)
      have hR' := hR
      obtain ⟨f0, f1, f2, f3, f4, f5, f6⟩ := hR'
      have hS := (Box3.stored (b := false) (a := ao) (l := l) (k := cap) (a2 := some ⟨wr.heap.size, 0, none⟩) (l2 := 1) (k2 := 1) hR).alloc (.cells #[.int .i64 1] 3)
      obtain ⟨c0, c1, c2, c3, c4, c5, c6⟩ := hS
      go_wp2
      exact bodyPost_ret (v := .agg #[.bool false, .slice ao l cap, .slice (some ⟨wr.heap.size, 0, none⟩) 1 1]) (by simp [results, Tryz.results69, go_sem, c0, c1, c2]) rfl ⟨_, rfl, numV_over1 (p := 1) hN (by rw [Hid]; rfl) hR,
        (below_stored hbl (Nat.le_refl _) _ _ _).alloc (by have := hbl.size; simp; omega) _⟩
end Go.Proofs.YtnhfdcfnojnofaaGreatDoor.T

/-
  What the document's own Calc does (package planesref).
-/
namespace Go.Proofs.YtnhfdcfnojnofaaGreatDoor.T
open Go.RowKit

/-- Is the text a number's? -/
def rOk (l : List UInt8) : Bool := rdOk (Lib.trimPrefix l [45]) 40
/-- The number without its sign and before it is in lowest terms, above and beneath. -/
def rA (l : List UInt8) : Nat := decVal (Lib.cut (Lib.trimPrefix l [45]) [47]).1
def rD (l : List UInt8) : Nat := rdDown (Lib.trimPrefix l [45])
/-- The number in lowest terms. -/
def rP (l : List UInt8) : Int := sg (Lib.hasPrefix l [45]) (rA l) / (Nat.gcd (rA l) (rD l) : Int)
def rQ (l : List UInt8) : Nat := rD l / Nat.gcd (rA l) (rD l)

theorem okD_ten {A : List UInt8} {m : Nat} (h : okD A m = true) : decVal A < 10 ^ m := by
  unfold okD at h
  simp only [Bool.and_eq_true, decide_eq_true_eq] at h
  exact Nat.lt_of_lt_of_le (decVal_lt h.2.2) (Nat.pow_le_pow_right (by omega) h.2.1)

theorem rd_parts {l : List UInt8} (h : rOk l = true) : rA l < 10 ^ 40 ∧ rD l < 10 ^ 40 ∧ 0 < rD l := by
  unfold rOk rdOk at h
  simp only [Bool.and_eq_true, Bool.or_eq_true, Bool.not_eq_true', decide_eq_true_eq] at h
  obtain ⟨h1, h2⟩ := h
  refine ⟨okD_ten h1, ?_, ?_⟩
  · unfold rD rdDown
    split
    · rename_i hc
      rcases h2 with h2 | h2
      · rw [h2] at hc; simp at hc
      · exact okD_ten h2.1
    · exact one40
  · unfold rD rdDown
    split
    · rename_i hc
      rcases h2 with h2 | h2
      · rw [h2] at hc; simp at hc
      · exact Nat.pos_of_ne_zero h2.2
    · omega

theorem r_bd {l : List UInt8} (h : rOk l = true) : (rP l).natAbs < 10 ^ 40 ∧ rQ l < 10 ^ 40 ∧ 0 < rQ l := by
  obtain ⟨h1, h2, h3⟩ := rd_parts h
  refine ⟨?_, Nat.lt_of_le_of_lt (Nat.div_le_self _ _) h2, ?_⟩
  · refine Nat.lt_of_le_of_lt (Int.natAbs_ediv_le_natAbs _ _) ?_
    rw [sg_abs]; exact h1
  · exact Nat.div_pos (Nat.le_of_dvd h3 (Nat.gcd_dvd_right _ _)) (Nat.gcd_pos_of_pos_right _ h3)

theorem read_40 (s : ByteArray) (w : World) (hs : s.size ≤ 9223372036854775807) :
    Calls Tryz.prog 102 #[.string s, .int .i64 40] w fun e w' => ∃ b ao l cap ao' l' cap', e = .returned (.tuple #[.agg #[.bool b, .slice ao l cap, .slice ao' l' cap'], .bool (rOk s.data.toList)]) ∧
      (rOk s.data.toList = true → NumV w' (.agg #[.bool b, .slice ao l cap, .slice ao' l' cap']) (rP s.data.toList) (rQ s.data.toList)) ∧ Below w.heap.size w w' :=
  read_any s 40 w hs (by omega)

/-- What comes of it: the text, and the error's number. -/
def resT (op : Int) (p r : Int) (q s : Nat) : List UInt8 × Int :=
  if op = 1 then (lowText (p * s + r * q) (q * s), 0) else if op = 2 then (lowText (p * s + (-r) * q) (q * s), 0) else if op = 3 then (lowText (p * r) (q * s), 0)
  else if op = 4 then (if r = 0 then ([], 3) else (lowText (p * s * r.sign) (q * r.natAbs), 0)) else if op = 5 then (Lib.itoa (p / (q : Int)), 0) else (Lib.itoa (if p * (s : Int) < r * (q : Int) then 1 else 0), 0)

set_option maxHeartbeats 400000 in
set_option maxRecDepth 100000 in
theorem rcalc_op (op : Int) (s t : ByteArray) (w : World) (h : op < 1 ∨ 6 < op) :
    Calls Tryz.prog 63 #[.int .i64 op, .string s, .string t] w fun e w' => e = .returned (.tuple #[.string ⟨#[]⟩, .int .i64 1]) ∧ w' = w := by
  by_cases h1 : op < 1
  · go_enter Tryz.func63, Tryz.ntmps63
    go_wp2
    go_ret2
    exact ⟨rfl, rfl⟩
  · have h2 : 6 < op := by omega
    go_enter Tryz.func63, Tryz.ntmps63
    go_wp2
    go_ret2
    exact ⟨rfl, rfl⟩

set_option maxHeartbeats 1000000 in
set_option maxRecDepth 100000 in
theorem rcalc_num (op : Int) (s t : ByteArray) (w : World) (hs : s.size ≤ 9223372036854775807) (ht : t.size ≤ 9223372036854775807) (h1 : 1 ≤ op) (h6 : op ≤ 6) (hno : rOk s.data.toList = false ∨ rOk t.data.toList = false) :
    Calls Tryz.prog 63 #[.int .i64 op, .string s, .string t] w fun e w' => e = .returned (.tuple #[.string ⟨#[]⟩, .int .i64 2]) ∧ Below w.heap.size w w' := by
  have HR1 := hide (fun W => read_40 s W hs)
  have HR2 := hide (fun W => read_40 t W ht)
  generalize rOk s.data.toList = o1 at *
  generalize rOk t.data.toList = o2 at *
  go_enter Tryz.func63, Tryz.ntmps63
  go_wp2_with fail
  refine (HR1.out _).mono ?_
  rintro e w1 ⟨b, ao, l, cap, ao', l', cap', rfl, _, hb1⟩
  have hbl1 := hb1.alloc hb1.size (.cells #[.bool b, .slice ao l cap, .slice ao' l' cap'] 118)
  clear HR1 hb1
  go_wp2_with fail
  refine (HR2.out _).mono ?_
  rintro e w3 ⟨c, bo, m, dap, bo', m', dap', rfl, _, hb3⟩
  have hbl3 := hbl1.trans (hb3.mono hbl1.size)
  have hbl4 := hbl3.alloc hbl3.size (.cells #[.bool c, .slice bo m dap, .slice bo' m' dap'] 118)
  clear HR2 hb3 hbl3 hbl1
  cases o1 with
  | false =>
    go_wp2
    go_ret2
    exact ⟨rfl, hbl4⟩
  | true =>
    obtain rfl : o2 = false := by
      rcases hno with h | h
      · simp at h
      · exact h
    go_wp2
    go_ret2
    exact ⟨rfl, hbl4⟩
end Go.Proofs.YtnhfdcfnojnofaaGreatDoor.T

/-
  Numbers read: fraction.Parse, of any text.
-/
namespace Go.Proofs.YtnhfdcfnojnofaaGreatDoor
open Go.RowKit

set_option maxRecDepth 100000 in
set_option maxHeartbeats 2000000 in
theorem fracParse2_frac (K : Nat) (hK : K ≤ 1073741822) (hO : OverOK K) (s : ByteArray) (m : Nat) (w : World) (hm : m ≤ 1000000000) (hs : s.size ≤ 9223372036854775807) (a b : List UInt8) (hcut : Lib.cut s.data.toList [47] = (a, b, true))
    (ha0 : 0 < (Lib.trimPrefix a [45]).length) (ha1 : (Lib.trimPrefix a [45]).length ≤ m) (ha2 : allDig (Lib.trimPrefix a [45]) = true) (hb0 : 0 < b.length) (hb1 : b.length ≤ m) (hb2 : allDig b = true) (hbn : decVal b ≠ 0)
    (hz : decVal (Lib.trimPrefix a [45]) < 4294967296 ^ K) (hn : decVal b < 4294967296 ^ K) :
    Calls Tryz.prog 56 #[.string s, .int .i64 (m : Nat)] w fun e w' => ∃ x z, z = sg (Lib.hasPrefix a [45]) (decVal (Lib.trimPrefix a [45])) ∧ e = .returned (.tuple #[x, .bool true]) ∧ FracV w' x (z / (Nat.gcd z.natAbs (decVal b) : Int)) (decVal b / Nat.gcd z.natAbs (decVal b)) ∧ Below w.heap.size w w' := by
  have hbox : Box3 (w.alloc (.cells #[.bool false, .slice none 0 0, .slice none 0 0] 103)) w.heap.size (.bool false) (.slice none 0 0) (.slice none 0 0) := Box3.new _ _ _ _ _
  have hbW : Below w.heap.size w (w.alloc (.cells #[.bool false, .slice none 0 0, .slice none 0 0] 103)) := (Below.refl _ _).alloc (Nat.le_refl _) _
  have hcp := cut_any s (w.alloc (.cells #[.bool false, .slice none 0 0, .slice none 0 0] 103)) hs
  rw [hcut] at hcp
  have HCP := hide hcp
  have hp := fun W => wholeParse_yes ⟨a.toArray⟩ m W hm (by simpa using ha0) (by simpa using ha1) (by simpa using ha2)
  have ea : (ByteArray.mk a.toArray).data.toList = a := by simp
  rw [ea] at hp
  have HP := hide hp
  have hq := fun W => natParse_yes ⟨b.toArray⟩ m W hm (by rw [size_mk]; exact hb0) (by rw [size_mk]; exact hb1) (by simpa using hb2)
  have eb : (ByteArray.mk b.toArray).data.toList = b := by simp
  rw [eb] at hq
  have HQ := hide hq
  have hzz : (sg (Lib.hasPrefix a [45]) (decVal (Lib.trimPrefix a [45]))).natAbs < 4294967296 ^ K := by rw [sg_abs]; exact hz
  generalize sg (Lib.hasPrefix a [45]) (decVal (Lib.trimPrefix a [45])) = z at *
  generalize decVal b = n at *
  clear hcp hp hq ea eb hcut ha0 ha1 ha2 hb0 hb1 hb2 hz hs
  go_enter Tryz.func56, Tryz.ntmps56
  go_wp2_with fail
  refine HCP.out.mono ?_
  rintro e w1 ⟨rfl, q1, rfl⟩
  go_wp2_with fail
  refine (HP.out _).mono ?_
  rintro e w2 ⟨x, rfl, hx, hbx⟩
  obtain ⟨b2, a2, l2, k2, rfl, hv2, hbb2⟩ := hx.parts
  have hboxA := (hbox.drewN q1).below hbx
  have hbA : Below w.heap.size w w2 := hbW.trans ((below_ofDrewN hbx).mono hbW.size)
  have hboxB := hboxA.alloc (.cells #[.bool b2, .slice a2 l2 k2] 101)
  have hxB := hx.alloc (.cells #[.bool b2, .slice a2 l2 k2] 101)
  have hbB : Below w.heap.size w (w2.alloc (.cells #[.bool b2, .slice a2 l2 k2] 101)) := hbA.alloc hbA.size _
  have hbox5 : Box2 (w2.alloc (.cells #[.bool b2, .slice a2 l2 k2] 101)) w2.heap.size (.bool b2) (.slice a2 l2 k2) := Box2.new _ _ _ _
  clear hbx hboxA hbox hx hv2 hbW
  go_wp2_with fail
  refine (HQ.out _).mono ?_
  rintro e w3 ⟨v, rfl, hv, hbv⟩
  have hboxC := hboxB.below hbv
  have hxC := hxB.below hbv
  have hbox6 := hbox5.below hbv
  have hbC : Below w.heap.size w w3 := hbB.trans (hbv.mono hbB.size)
  clear hbv hboxB hxB hbox5 hbB
  obtain ⟨i0, i1, i2, i3, i4⟩ := hbox6
  go_wp2_with fail
  refine (isZero_no _ _ _ hv hbn).mono ?_
  rintro e w4 ⟨rfl, rfl⟩
  go_wp2_with fail
  refine (reduced_any K hK hO _ _ _ z n hxC hv hbn hzz hn).mono ?_
  rintro e w5 ⟨y, rfl, hy, hby⟩
  obtain ⟨b3, a5, l5, k5, a6, l6, k6, rfl, hr1, hr2, hr3, hr4, hr5⟩ := hy.parts
  have hboxD := hboxC.below hby
  have hbD : Below w.heap.size w w5 := hbC.trans (hby.mono hbC.size)
  obtain ⟨c0, c1, c2, f0, f1, f2, g0⟩ := hboxD
  clear hby hboxC hxC i0 i1 i2 i3 i4 hy
  go_wp2
  exact bodyPost_ret (v := .tuple #[.agg #[.bool b3, .slice a5 l5 k5, .slice a6 l6 k6], .bool true]) (by simp [results, Tryz.results56, go_sem, c0, c1, c2]) rfl ⟨_, z, rfl, rfl, fracV_boxed hr1 hr2 hr3 hr4 hr5 c0 c1 c2,
    ((hbD.setCell (by simp) _).setCell (by simp) _).setCell (by simp) _⟩

set_option maxRecDepth 100000 in
set_option maxHeartbeats 2000000 in
theorem fracParse2_whole (s : ByteArray) (m : Nat) (w : World) (hm : m ≤ 1000000000) (hs : s.size ≤ 9223372036854775807) (a : List UInt8) (hcut : Lib.cut s.data.toList [47] = (a, [], false))
    (ha0 : 0 < (Lib.trimPrefix a [45]).length) (ha1 : (Lib.trimPrefix a [45]).length ≤ m) (ha2 : allDig (Lib.trimPrefix a [45]) = true) :
    Calls Tryz.prog 56 #[.string s, .int .i64 (m : Nat)] w fun e w' => ∃ x, e = .returned (.tuple #[x, .bool true]) ∧ FracV w' x (sg (Lib.hasPrefix a [45]) (decVal (Lib.trimPrefix a [45]))) 1 ∧ Below w.heap.size w w' := by
  have hbox : Box3 (w.alloc (.cells #[.bool false, .slice none 0 0, .slice none 0 0] 103)) w.heap.size (.bool false) (.slice none 0 0) (.slice none 0 0) := Box3.new _ _ _ _ _
  have hbW : Below w.heap.size w (w.alloc (.cells #[.bool false, .slice none 0 0, .slice none 0 0] 103)) := (Below.refl _ _).alloc (Nat.le_refl _) _
  have hcp := cut_any s (w.alloc (.cells #[.bool false, .slice none 0 0, .slice none 0 0] 103)) hs
  rw [hcut] at hcp
  have HCP := hide hcp
  have hp := fun W => wholeParse_yes ⟨a.toArray⟩ m W hm (by simpa using ha0) (by simpa using ha1) (by simpa using ha2)
  have ea : (ByteArray.mk a.toArray).data.toList = a := by simp
  rw [ea] at hp
  have HP := hide hp
  generalize sg (Lib.hasPrefix a [45]) (decVal (Lib.trimPrefix a [45])) = z at *
  clear hcp hp ea hcut ha0 ha1 ha2 hs
  go_enter Tryz.func56, Tryz.ntmps56
  go_wp2_with fail
  refine HCP.out.mono ?_
  rintro e w1 ⟨rfl, q1, rfl⟩
  go_wp2_with fail
  refine (HP.out _).mono ?_
  rintro e w2 ⟨x, rfl, hx, hbx⟩
  obtain ⟨b2, a2, l2, k2, rfl, hv2, hbb2⟩ := hx.parts
  have hboxA := (hbox.drewN q1).below hbx
  have hbA : Below w.heap.size w w2 := hbW.trans ((below_ofDrewN hbx).mono hbW.size)
  have hboxB := hboxA.alloc (.cells #[.bool b2, .slice a2 l2 k2] 101)
  have hxB := hx.alloc (.cells #[.bool b2, .slice a2 l2 k2] 101)
  have hbB : Below w.heap.size w (w2.alloc (.cells #[.bool b2, .slice a2 l2 k2] 101)) := hbA.alloc hbA.size _
  clear hbx hboxA hbox hx hv2 hbW
  go_wp2_with fail
  refine (fof_any _ _ z hxB).mono ?_
  rintro e w5 ⟨y, rfl, hy, hby⟩
  obtain ⟨b3, a5, l5, k5, a6, l6, k6, rfl, hr1, hr2, hr3, hr4, hr5⟩ := hy.parts
  have hboxD := hboxB.below hby
  have hbD : Below w.heap.size w w5 := hbB.trans (hby.mono hbB.size)
  obtain ⟨c0, c1, c2, f0, f1, f2, g0⟩ := hboxD
  clear hby hboxB hxB hy
  go_wp2
  exact bodyPost_ret (v := .tuple #[.agg #[.bool b3, .slice a5 l5 k5, .slice a6 l6 k6], .bool true]) (by simp [results, Tryz.results56, go_sem, c0, c1, c2]) rfl ⟨_, rfl, fracV_boxed hr1 hr2 hr3 hr4 hr5 c0 c1 c2,
    ((hbD.setCell (by simp) _).setCell (by simp) _).setCell (by simp) _⟩


set_option maxRecDepth 100000 in
set_option maxHeartbeats 1000000 in
theorem natParse2_no (s : ByteArray) (m : Nat) (w : World) (hm : m ≤ 1099511627776) (hs : s.size ≤ 9223372036854775807) (h : s.data.toList = [] ∨ m < s.size ∨ allDig s.data.toList = false) :
    Calls Tryz.prog 76 #[.string s, .int .i64 (m : Nat)] w fun e w' => e = .returned (.tuple #[.slice none 0 0, .bool false]) ∧ w' = w := by
  by_cases h2 : m < s.size
  · have h3 : (m : Int) < (s.size : Int) := by omega
    have h1 : ((s.size : Int) == 0) = false := beq_eq_false_iff_ne.2 (by omega)
    clear h
    go_enter Tryz.func76, Tryz.ntmps76
    go_wp2
    go_ret2
    exact ⟨rfl, rfl⟩
  · exact natParse_no s m w hm (by omega) h

set_option maxRecDepth 100000 in
set_option maxHeartbeats 1000000 in
theorem wholeParse_no (s : ByteArray) (m : Nat) (w : World) (hm : m ≤ 1000000000) (hs : s.size ≤ 9223372036854775807) (h : T.okD (Lib.trimPrefix s.data.toList [45]) m = false) :
    Calls Tryz.prog 74 #[.string s, .int .i64 (m : Nat)] w fun e w' => ∃ b ao l cap, e = .returned (.tuple #[.agg #[.bool b, .slice ao l cap], .bool false]) ∧ Below w.heap.size w w' := by
  have hbox : Box2 (w.alloc (.cells #[.bool false, .slice none 0 0] 101)) w.heap.size (.bool false) (.slice none 0 0) := Box2.new _ _ _ _
  have hbW : Below w.heap.size w (w.alloc (.cells #[.bool false, .slice none 0 0] 101)) := (Below.refl _ _).alloc (Nat.le_refl _) _
  have hcp := Tryz.strings_CutPrefix s ⟨#[45]⟩ (w.alloc (.cells #[.bool false, .slice none 0 0] 101))
  have e45 : (ByteArray.mk #[45]).data.toList = [45] := rfl
  rw [e45] at hcp
  have hdl : (Lib.trimPrefix s.data.toList [45]).length ≤ s.size := by
    rw [← toList_len s, Lib.trimPrefix]
    split
    · simp
    · exact Nat.le_refl _
  generalize Lib.trimPrefix s.data.toList [45] = d at *
  generalize Lib.hasPrefix s.data.toList [45] = neg at *
  have hno : (ByteArray.mk d.toArray).data.toList = [] ∨ m < (ByteArray.mk d.toArray).size ∨ allDig (ByteArray.mk d.toArray).data.toList = false := by
    have e : (ByteArray.mk d.toArray).data.toList = d := by simp
    rw [e, size_mk]
    unfold T.okD at h
    by_cases h1 : d = []
    · exact Or.inl h1
    · by_cases h2 : d.length ≤ m
      · rw [decide_eq_true h1, decide_eq_true h2, Bool.true_and, Bool.true_and] at h
        exact Or.inr (Or.inr h)
      · exact Or.inr (Or.inl (by omega))
  have HNP := hide (fun W => natParse2_no ⟨d.toArray⟩ m W (by omega) (by rw [size_mk]; omega) hno)
  have HCP := hide hcp
  clear hcp e45 hno h
  go_enter Tryz.func74, Tryz.ntmps74
  go_wp2_with fail
  refine HCP.out.mono ?_
  rintro e w1 ⟨rfl, rfl⟩
  go_wp2_with fail
  refine (HNP.out _).mono ?_
  rintro e w2 ⟨rfl, rfl⟩
  go_wp2_with fail
  refine (signed_any _ _ _ _ (NatV.zero _ _ _)).mono ?_
  rintro e w3 ⟨x, rfl, hx, hbx⟩
  obtain ⟨b2, a2, l2, k2, rfl, hv2, hb2⟩ := hx.parts
  have hboxB := hbox.below hbx
  have hbB : Below w.heap.size w w3 := hbW.trans (hbx.mono hbW.size)
  obtain ⟨c0, c1, f0, f1, g0⟩ := hboxB
  clear hbx hbox
  go_wp2
  exact bodyPost_ret (v := .tuple #[.agg #[.bool b2, .slice a2 l2 k2], .bool false]) (by simp [results, Tryz.results74, go_sem, c0, c1]) rfl ⟨b2, a2, l2, k2, rfl, (hbB.setCell (by simp) _).setCell (by simp) _⟩

theorem cut_cons {c : UInt8} (hc : c ≠ 47) (r : List UInt8) : Lib.cut (c :: r) [47] = (c :: (Lib.cut r [47]).1, (Lib.cut r [47]).2.1, (Lib.cut r [47]).2.2) := by
  by_cases h : ∃ k, ∃ hk : k < r.length, r[k] = 47 ∧ ∀ i (h : i < k), r[i]'(by omega) ≠ 47
  · obtain ⟨k, hk, h47, hno⟩ := h
    rw [T.cut_here hk h47 hno]
    rw [T.cut_here (T := c :: r) (k := k + 1) (by simp; omega) (by simpa using h47) (by
      intro i hi
      cases i with
      | zero => simpa using hc
      | succ i => simpa using hno i (by omega))]
    simp
  · have hn : ∀ i (h : i < r.length), r[i] ≠ 47 := by
      intro i
      induction i using Nat.strongRecOn with
      | _ i ih => exact fun hi e => h ⟨i, hi, e, fun j hj => ih j hj (by omega)⟩
    rw [T.cut_not hn]
    rw [T.cut_not (T := c :: r) (by
      intro i hi
      cases i with
      | zero => simpa using hc
      | succ i => simpa using hn i (by simpa using hi))]

/-- To cut at the stroke and then to take off the sign is the same as the other way about. -/
theorem cut_trim (L : List UInt8) : Lib.cut (Lib.trimPrefix L [45]) [47] = (Lib.trimPrefix (Lib.cut L [47]).1 [45], (Lib.cut L [47]).2.1, (Lib.cut L [47]).2.2) ∧ Lib.hasPrefix L [45] = Lib.hasPrefix (Lib.cut L [47]).1 [45] := by
  cases L with
  | nil => exact ⟨rfl, rfl⟩
  | cons c r =>
    by_cases h45 : c = 45
    · subst h45
      rw [cut_cons (by decide)]
      simp [Lib.trimPrefix, Lib.hasPrefix]
    · have hp : Lib.hasPrefix (c :: r) [45] = false := by simp [Lib.hasPrefix, List.isPrefixOf, Ne.symm h45]
      have ht : Lib.trimPrefix (c :: r) [45] = c :: r := by rw [Lib.trimPrefix, hp]; rfl
      rw [ht, hp]
      have hq : Lib.hasPrefix (Lib.cut (c :: r) [47]).1 [45] = false := by
        by_cases h47 : c = 47
        · rw [T.cut_here (T := c :: r) (k := 0) (by simp) (by simpa using h47) (by intro i hi; omega)]
          rfl
        · rw [cut_cons h47]
          simp [Lib.hasPrefix, List.isPrefixOf, Ne.symm h45]
      refine ⟨?_, hq.symm⟩
      rw [Lib.trimPrefix, hq]
      rfl
end Go.Proofs.YtnhfdcfnojnofaaGreatDoor
