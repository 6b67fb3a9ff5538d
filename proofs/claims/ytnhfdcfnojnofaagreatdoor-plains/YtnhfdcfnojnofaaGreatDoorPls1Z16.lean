/-
  Part 16 of the texts ahead of Pls1: Ts1, Ts2, Ts3.
-/
import Derived.Test.YtnhfdcfnojnofaaGreatDoorPls1Z13
import Derived.Test.YtnhfdcfnojnofaaGreatDoorPls1Z2
import Derived.Test.YtnhfdcfnojnofaaGreatDoorPls1Z15
set_option linter.unusedSimpArgs false
set_option linter.unusedVariables false
/-
  What the document's own Words, Lines do (package planesref): a text parted at a byte.
-/
namespace Go.Proofs.YtnhfdcfnojnofaaGreatDoor.T
open Go.RowKit

/-- A text as a value. -/
def encS (s : ByteArray) : Value := .string s

/-- A slice value that holds the texts ls. -/
def Sv (w : World) (v : Value) (ls : List ByteArray) : Prop :=
  (v = .slice none 0 0 ∧ ls = []) ∨ ∃ g off cap, v = .slice (some ⟨g, off, none⟩) ls.length cap ∧ ls.length ≤ cap ∧ g < w.heap.size ∧ ∀ i, i < ls.length → w.cell? ⟨g, off + i, none⟩ = some (.string (ls.getD i ⟨#[]⟩))

theorem Sv.below {w w' : World} {v : Value} {ls : List ByteArray} (h : Sv w v ls) (hb : Below w.heap.size w w') : Sv w' v ls := by
  rcases h with h | ⟨g, off, cap, h1, h2, h3, h4⟩
  · exact Or.inl h
  · exact Or.inr ⟨g, off, cap, h1, h2, Nat.lt_of_lt_of_le h3 hb.size, fun i hi => (hb.cell (p := ⟨g, off + i, none⟩) h3).trans (h4 i hi)⟩

theorem Tryz.infoStr : (Tryz.prog.info? 9).map (fun i => (i.zero, i.size, i.bytes)) = some (some (.string ⟨#[]⟩), 1, 16) := by kernel_rfl

theorem sv_of_owns {w : World} {base : Nat} {ap : Option Addr} {kp : Nat} {ls : List ByteArray} (h : w.ownsRow base 9 1 (.slice ap ls.length kp) ls.length (ls.map encS)) : Sv w (.slice ap ls.length kp) ls := by
  have h0 := h
  obtain ⟨hl, h1 | ⟨g, cap, cur, hv, hg, hh, hn, _, _, _⟩⟩ := h
  · left
    refine ⟨h1.1, ?_⟩
    have h2 := h1.1
    simp only [Value.slice.injEq] at h2
    exact List.length_eq_zero_iff.1 h2.2.1
  · simp only [Value.slice.injEq] at hv
    obtain ⟨rfl, _, rfl⟩ := hv
    refine Or.inr ⟨g, 0, _, rfl, hn, (lt_of_owns h0).2, fun i hi => ?_⟩
    have := h0.cellAt i (by omega)
    rw [Nat.zero_add, this, List.getElem?_map, List.getElem?_eq_getElem hi, List.getD_eq_getElem?_getD, List.getElem?_eq_getElem hi]
    rfl

theorem grown_str {w wr w3 : World} {ap : Option Addr} {kp : Nat} {ls : List ByteArray} {x : ByteArray} {v3 : Value} {o : Obj} (hown : wr.ownsRow w.heap.size 9 1 (.slice ap ls.length kp) ls.length (ls.map encS)) (hbel : Below w.heap.size w wr)
    (hown3 : w3.ownsRow w.heap.size 9 1 v3 (ls.length + 1) (ls.map encS ++ [.string x])) (hgrow : (wr.alloc o).grownBy w3 (Value.slice ap ls.length kp).ownBlock) (hnn : v3 ≠ .slice none 0 0) :
    ∃ ls', ls' = ls ++ [x] ∧ ls'.length = ls.length + 1 ∧ ∃ cap3 g3, v3 = .slice (some ⟨g3, 0, none⟩) ls'.length cap3 ∧ w3.ownsRow w.heap.size 9 1 (.slice (some ⟨g3, 0, none⟩) ls'.length cap3) ls'.length (ls'.map encS) ∧ Below w.heap.size w w3 := by
  have e : ls.map encS ++ [Value.string x] = (ls ++ [x]).map encS := by simp [encS]
  rw [e] at hown3
  have h0 := hown3
  obtain ⟨hl, h1 | ⟨g, cap, cur, hv, hg, hh, hn, _, _, _⟩⟩ := hown3
  · exact absurd h1.1 hnn
  · subst hv
    refine ⟨_, rfl, by simp, cap, g, by simp, ?_, ?_⟩
    · rw [show (ls ++ [x]).length = ls.length + 1 by simp]; exact h0
    · exact (hbel.alloc hbel.size _).grown hgrow (by have := hbel.size; simp; omega) (fun k h => (hown.lt k h).1)

theorem take_snoc (l : List UInt8) (i : Nat) (h : i < l.length) : l.take (i + 1) = l.take i ++ [l[i]] := by
  rw [List.take_succ_eq_append_getElem h]

theorem one_byte {s : ByteArray} {i : Nat} (h : i < s.size) : s.extract i (i + 1) = ⟨#[s[i]]⟩ := by
  apply ba_of (l := [s[i]])
  rw [Lib.extract_data, show i + 1 - i = 1 by omega]
  have hl : i < s.data.toList.length := by rw [toList_len]; exact h
  rw [List.drop_eq_getElem_cons hl]
  simp
  rfl

set_option maxHeartbeats 2000000 in
set_option maxRecDepth 100000 in
theorem words_any (s : ByteArray) (w : World) (hs : s.size ≤ 1000000000) :
    Calls Tryz.prog 113 #[.string s] w fun e w' => ∃ x, e = .returned x ∧ Sv w' x ((part 32 s.data.toList).1 ++ [⟨(part 32 s.data.toList).2.toArray⟩]) ∧ (∀ g, x.ownBlock = some g → w.heap.size ≤ g) ∧ Below w.heap.size w w' := by
  obtain ⟨i0, hi, hz0, hz1, hz2⟩ := info_parts Tryz.infoStr
  have hLs : s.data.toList.length = s.size := toList_len s
  go_enter Tryz.func113, Tryz.ntmps113
  go_wp2
  go_loopw [3, 4, 5] (fun lv wv iv wr => ∃ (i : Nat) (ls : List ByteArray) (cur : ByteArray) (ap : Option Addr) (kp : Nat), i ≤ s.size ∧ lv = .slice ap ls.length kp ∧ wv = .string cur ∧ iv = .int .i64 (i : Nat) ∧ cur.size ≤ s.size ∧ ls.length ≤ s.size ∧
      Hid (part 32 (s.data.toList.take i) = (ls, cur.data.toList)) ∧ wr.ownsRow w.heap.size 9 1 (.slice ap ls.length kp) ls.length (ls.map encS) ∧ Below w.heap.size w wr) (fun _ _ iv _ => ((s.size : Int) - intOf iv).toNat)
  case atStart => exact ⟨0, [], ⟨#[]⟩, none, 0, by omega, rfl, rfl, rfl, Nat.zero_le _, Nat.zero_le _, rfl, World.ownsRow_nil _ _ _ _, Below.refl _ _⟩
  case round =>
    obtain ⟨i, ls, cur, ap, kp, hil, rfl, rfl, rfl, hcz, hlz, hpt, hown, hbel⟩ := hrel
    by_cases hin : i < s.size
    · have hini : (i : Int) < (s.size : Int) := by omega
      have HPN : Hid (part 32 (s.data.toList.take (i + 1)) = if s[i] = 32 then (ls ++ [cur], []) else (ls, cur.data.toList ++ [s[i]])) := by
        have e : s.data.toList[i]'(by omega) = s[i] := rfl
        rw [Hid, take_snoc _ i (by omega), part_snoc, hpt.out, e]
      have HLEN := hide (part_len 32 (s.data.toList.take (i + 1)))
      by_cases hc : (s[i].toNat : Int) = 32
      · have hc2 : s[i] = 32 := UInt8.toNat.inj (show s[i].toNat = 32 by omega)
        have hpn := HPN.out
        rw [if_pos hc2] at hpn
        have HPN2 := hide hpn
        have hl2 : ls.length + 1 ≤ s.size := by
          have := HLEN.out
          rw [hpn, List.length_take] at this
          simp at this
          omega
        clear hpn HPN hc2 HLEN hpt
        go_wp2_with (at_builtin; refine wpList_append_own _ rfl _ _ 44 rfl w.heap.size 9 i0 (.string ⟨#[]⟩) 1 16 Tryz.underlying44 hi hz0 hz1 hz2 rfl (by decide) (.slice ap ls.length kp) ls.length (ls.map encS) rfl (hown.alloc _) ⟨wr.heap.size, 0, none⟩ 1 1 [.string cur] rfl rfl (cell_one_new _ _ _) ?c2 (by unfold maxLen; omega) (by omega) (by have := hbel.size; simp; omega) ?_)
        case c2 => first | rfl | (intro u hu; simp at hu; subst hu; rfl)
        intro v3 w3 hown3 hgrow hnn
        obtain ⟨ls', hls', hll', cap3, g3, rfl, hown4, hb3⟩ := grown_str hown hbel hown3 hgrow hnn
        go_wp2
        go_roundw
        case rel => exact ⟨i + 1, ls', ⟨#[]⟩, _, cap3, by omega, rfl, rfl, by go_num, Nat.zero_le _, by omega, by rw [Hid, HPN2.out, hls'], hown4, hb3⟩
        case measure => simp [intOf]; omega
      · have hc2 : s[i] ≠ 32 := by intro e; rw [e] at hc; exact hc rfl
        have hpn := HPN.out
        rw [if_neg hc2] at hpn
        have HPN2 := hide hpn
        have hl2 : cur.size + 1 ≤ s.size := by
          have := HLEN.out
          rw [hpn, List.length_take] at this
          simp only [List.length_append, List.length_cons, List.length_nil, toList_len] at this
          omega
        have HO := hide (one_byte hin)
        have hszo : (s.extract i (i + 1)).size = 1 := by rw [HO.out]; rfl
        clear hpn HPN hc2 HLEN hpt
        go_wp2
        go_roundw
        case rel => exact ⟨i + 1, ls, _, _, kp, by omega, rfl, rfl, by go_num, by rw [ByteArray.size_append, hszo]; exact hl2, hlz, by rw [Hid, HPN2.out, HO.out]; first | rfl | (congr 1; simp), hown, hbel⟩
        case measure => simp [intOf]; omega
    · obtain rfl : i = s.size := by omega
      have hpf := hpt.out
      rw [List.take_of_length_le (by omega)] at hpf
      have HPF := hide hpf
      clear hpf hpt hin
      go_wp2_with (at_builtin; refine wpList_append_own _ rfl _ _ 44 rfl w.heap.size 9 i0 (.string ⟨#[]⟩) 1 16 Tryz.underlying44 hi hz0 hz1 hz2 rfl (by decide) (.slice ap ls.length kp) ls.length (ls.map encS) rfl (hown.alloc _) ⟨wr.heap.size, 0, none⟩ 1 1 [.string cur] rfl rfl (cell_one_new _ _ _) ?c2 (by unfold maxLen; omega) (by omega) (by have := hbel.size; simp; omega) ?_)
      case c2 => first | rfl | (intro u hu; simp at hu; subst hu; rfl)
      intro v3 w3 hown3 hgrow hnn
      obtain ⟨ls', hls', hll', cap3, g3, rfl, hown4, hb3⟩ := grown_str hown hbel hown3 hgrow hnn
      go_wp2
      go_ret
      refine ⟨_, rfl, ?_, fun g hg => (hown4.lt g hg).1, hb3⟩
      rw [HPF.out]
      have hs' := sv_of_owns hown4
      rw [hls'] at hs' ⊢
      exact hs'

set_option maxHeartbeats 2000000 in
set_option maxRecDepth 100000 in
theorem lines_any (s : ByteArray) (w : World) (hs : s.size ≤ 1000000000) :
    Calls Tryz.prog 111 #[.string s] w fun e w' => ∃ x, e = .returned (.tuple #[x, .bool (decide ((part 10 s.data.toList).2 = []))]) ∧ Sv w' x (if (part 10 s.data.toList).2 = [] then (part 10 s.data.toList).1 else (part 10 s.data.toList).1 ++ [⟨(part 10 s.data.toList).2.toArray⟩]) ∧ (∀ g, x.ownBlock = some g → w.heap.size ≤ g) ∧ Below w.heap.size w w' := by
  obtain ⟨i0, hi, hz0, hz1, hz2⟩ := info_parts Tryz.infoStr
  have hLs : s.data.toList.length = s.size := toList_len s
  obtain ⟨pl, pc, hpp⟩ : ∃ pl pc, part 10 s.data.toList = (pl, pc) := ⟨_, _, rfl⟩
  rw [hpp]
  have HPP := hide hpp
  clear hpp
  simp only
  go_enter Tryz.func111, Tryz.ntmps111
  go_wp2
  go_loopw [4, 5, 6] (fun lv wv iv wr => ∃ (i : Nat) (ls : List ByteArray) (cur : ByteArray) (ap : Option Addr) (kp : Nat), i ≤ s.size ∧ lv = .slice ap ls.length kp ∧ wv = .string cur ∧ iv = .int .i64 (i : Nat) ∧ cur.size ≤ s.size ∧ ls.length ≤ s.size ∧
      Hid (part 10 (s.data.toList.take i) = (ls, cur.data.toList)) ∧ wr.ownsRow w.heap.size 9 1 (.slice ap ls.length kp) ls.length (ls.map encS) ∧ Below w.heap.size w wr) (fun _ _ iv _ => ((s.size : Int) - intOf iv).toNat)
  case atStart => exact ⟨0, [], ⟨#[]⟩, none, 0, by omega, rfl, rfl, rfl, Nat.zero_le _, Nat.zero_le _, rfl, World.ownsRow_nil _ _ _ _, Below.refl _ _⟩
  case round =>
    obtain ⟨i, ls, cur, ap, kp, hil, rfl, rfl, rfl, hcz, hlz, hpt, hown, hbel⟩ := hrel
    by_cases hin : i < s.size
    · have hini : (i : Int) < (s.size : Int) := by omega
      have HPN : Hid (part 10 (s.data.toList.take (i + 1)) = if s[i] = 10 then (ls ++ [cur], []) else (ls, cur.data.toList ++ [s[i]])) := by
        have e : s.data.toList[i]'(by omega) = s[i] := rfl
        rw [Hid, take_snoc _ i (by omega), part_snoc, hpt.out, e]
      have HLEN := hide (part_len 10 (s.data.toList.take (i + 1)))
      by_cases hc : (s[i].toNat : Int) = 10
      · have hc2 : s[i] = 10 := UInt8.toNat.inj (show s[i].toNat = 10 by omega)
        have hpn := HPN.out
        rw [if_pos hc2] at hpn
        have HPN2 := hide hpn
        have hl2 : ls.length + 1 ≤ s.size := by
          have := HLEN.out
          rw [hpn, List.length_take] at this
          simp at this
          omega
        clear hpn HPN hc2 HLEN hpt
        go_wp2_with (at_builtin; refine wpList_append_own _ rfl _ _ 44 rfl w.heap.size 9 i0 (.string ⟨#[]⟩) 1 16 Tryz.underlying44 hi hz0 hz1 hz2 rfl (by decide) (.slice ap ls.length kp) ls.length (ls.map encS) rfl (hown.alloc _) ⟨wr.heap.size, 0, none⟩ 1 1 [.string cur] rfl rfl (cell_one_new _ _ _) ?c2 (by unfold maxLen; omega) (by omega) (by have := hbel.size; simp; omega) ?_)
        case c2 => first | rfl | (intro u hu; simp at hu; subst hu; rfl)
        intro v3 w3 hown3 hgrow hnn
        obtain ⟨ls', hls', hll', cap3, g3, rfl, hown4, hb3⟩ := grown_str hown hbel hown3 hgrow hnn
        go_wp2
        go_roundw
        case rel => exact ⟨i + 1, ls', ⟨#[]⟩, _, cap3, by omega, rfl, rfl, by go_num, Nat.zero_le _, by omega, by rw [Hid, HPN2.out, hls'], hown4, hb3⟩
        case measure => simp [intOf]; omega
      · have hc2 : s[i] ≠ 10 := by intro e; rw [e] at hc; exact hc rfl
        have hpn := HPN.out
        rw [if_neg hc2] at hpn
        have HPN2 := hide hpn
        have hl2 : cur.size + 1 ≤ s.size := by
          have := HLEN.out
          rw [hpn, List.length_take] at this
          simp only [List.length_append, List.length_cons, List.length_nil, toList_len] at this
          omega
        have HO := hide (one_byte hin)
        have hszo : (s.extract i (i + 1)).size = 1 := by rw [HO.out]; rfl
        clear hpn HPN hc2 HLEN hpt
        go_wp2
        go_roundw
        case rel => exact ⟨i + 1, ls, _, _, kp, by omega, rfl, rfl, by go_num, by rw [ByteArray.size_append, hszo]; exact hl2, hlz, by rw [Hid, HPN2.out, HO.out]; first | rfl | (congr 1; simp), hown, hbel⟩
        case measure => simp [intOf]; omega
    · obtain rfl : i = s.size := by omega
      have hpf := hpt.out
      rw [List.take_of_length_le (by omega)] at hpf
      rw [HPP.out, Prod.mk.injEq] at hpf
      obtain ⟨hp1, hp2⟩ := hpf
      obtain rfl : ls = pl := hp1.symm
      obtain rfl : cur.data.toList = pc := hp2.symm
      clear HPP hpt hin hp1 hp2
      by_cases hce : cur = ⟨#[]⟩
      · subst hce
        have hs' := sv_of_owns hown
        go_wp2
        go_ret2
        exact ⟨_, rfl, hs', fun g hg => (hown.lt g hg).1, hbel⟩
      · have hne := empty_no hce
        have hnl : cur.data.toList ≠ [] := fun e => hce (ba_of (l := []) e)
        go_wp2_with (at_builtin; refine wpList_append_own _ rfl _ _ 44 rfl w.heap.size 9 i0 (.string ⟨#[]⟩) 1 16 Tryz.underlying44 hi hz0 hz1 hz2 rfl (by decide) (.slice ap ls.length kp) ls.length (ls.map encS) rfl (hown.alloc _) ⟨wr.heap.size, 0, none⟩ 1 1 [.string cur] rfl rfl (cell_one_new _ _ _) ?c2 (by unfold maxLen; omega) (by omega) (by have := hbel.size; simp; omega) ?_)
        case c2 => first | rfl | (intro u hu; simp at hu; subst hu; rfl)
        intro v3 w3 hown3 hgrow hnn
        obtain ⟨ls', hls', hll', cap3, g3, rfl, hown4, hb3⟩ := grown_str hown hbel hown3 hgrow hnn
        go_wp2
        go_ret2
        have hs' := sv_of_owns hown4
        rw [hll', hls'] at hs'
        refine ⟨_, rfl, ?_, fun g hg => (hown4.lt g hg).1, hb3⟩
        first | exact hs' | (rw [if_neg hnl]; exact hs')

end Go.Proofs.YtnhfdcfnojnofaaGreatDoor.T

/-
  What the document's own ReadWhole does (package planesref).
-/
namespace Go.Proofs.YtnhfdcfnojnofaaGreatDoor.T
open Go.RowKit

/-- Is the text a whole number's, and which. -/
def wOk (l : List UInt8) : Bool := decide (∀ c ∈ l, c ≠ 47) && rOk l
def wZ (l : List UInt8) : Int := sg (Lib.hasPrefix l [45]) (decVal (Lib.trimPrefix l [45]))

theorem trim_mem {l : List UInt8} {c : UInt8} (h : c ∈ Lib.trimPrefix l [45]) : c ∈ l := by
  unfold Lib.trimPrefix at h
  split at h
  · exact List.mem_of_mem_drop h
  · exact h

theorem w_parts {l : List UInt8} (h : ∀ c ∈ l, c ≠ 47) : rP l = wZ l ∧ rQ l = 1 ∧ rA l = decVal (Lib.trimPrefix l [45]) ∧ rOk l = okD (Lib.trimPrefix l [45]) 40 := by
  have hc : Lib.cut (Lib.trimPrefix l [45]) [47] = (Lib.trimPrefix l [45], [], false) := cut_none _ (fun c hc => h c (trim_mem hc))
  have hA : rA l = decVal (Lib.trimPrefix l [45]) := by unfold rA; rw [hc]
  have hD : rD l = 1 := by unfold rD rdDown; rw [hc]; rfl
  refine ⟨?_, ?_, hA, ?_⟩
  · unfold rP wZ
    rw [hA, hD, Nat.gcd_one_right]
    simp
  · unfold rQ
    rw [hD, Nat.gcd_one_right]
  · unfold rOk rdOk
    rw [hc]
    simp

set_option maxHeartbeats 2000000 in
set_option maxRecDepth 100000 in
theorem readWhole_any (s : ByteArray) (w : World) (hs : s.size ≤ 9223372036854775807) :
    Calls Tryz.prog 191 #[.string s, .int .i64 40] w fun e w' => ∃ b ao l cap ao' l' cap', e = .returned (.tuple #[.agg #[.bool b, .slice ao l cap, .slice ao' l' cap'], .bool (wOk s.data.toList)]) ∧
      (wOk s.data.toList = true → NumV w' (.agg #[.bool b, .slice ao l cap, .slice ao' l' cap']) (wZ s.data.toList) 1) ∧ Below w.heap.size w w' := by
  have hboxR : Box3 (w.alloc (.cells #[.bool false, .slice none 0 0, .slice none 0 0] 118)) w.heap.size (.bool false) (.slice none 0 0) (.slice none 0 0) := Box3.new _ _ _ _ _
  have hbW : Below w.heap.size w (w.alloc (.cells #[.bool false, .slice none 0 0, .slice none 0 0] 118)) := (Below.refl _ _).alloc (Nat.le_refl _) _
  have HR := hide (fun W => read_40 s W hs)
  obtain ⟨L, hL⟩ : ∃ L, s.data.toList = L := ⟨_, rfl⟩
  have hLs : L.length = s.size := by rw [← hL]; exact toList_len s
  have HG : Hid (∀ (I : Nat) (h : I < s.size), s[I] = L[I]'(by omega)) := by
    rw [Hid]
    intro I h
    subst hL
    rfl
  rw [hL] at HR ⊢
  clear hL
  generalize hwA : w.alloc (.cells #[.bool false, .slice none 0 0, .slice none 0 0] 118) = wA at *
  go_enter Tryz.func191, Tryz.ntmps191
  go_wp2
  clear hwA
  go_loop [6] (fun v => ∃ k : Nat, k ≤ s.size ∧ v = .int .i64 (k : Nat) ∧ Hid (∀ i (h : i < k) (h' : i < L.length), L[i] ≠ 47)) (fun v => ((s.size : Int) - intOf v).toNat)
  case atStart => exact ⟨0, by omega, rfl, by rw [Hid]; intro i h; omega⟩
  case round =>
    obtain ⟨k, hk, rfl, hno⟩ := hrel
    by_cases hkT : k < s.size
    · have hkTi : (k : Int) < (s.size : Int) := by omega
      have hgk := HG.out k hkT
      by_cases h47 : (s[k].toNat : Int) = 47
      · have HNO : Hid (wOk L = false) := by
          have hc47 : L[k]'(by omega) = 47 := by
            rw [← hgk]
            exact UInt8.toNat.inj (show s[k].toNat = 47 by omega)
          rw [Hid, wOk, decide_eq_false (fun h => h _ (List.getElem_mem (by omega)) hc47), Bool.false_and]
        obtain ⟨c0, c1, c2, c3, c4, c5, c6⟩ := hboxR
        clear hgk hno HR
        go_wp2
        exact bodyPost_ret (v := .tuple #[.agg #[.bool false, .slice none 0 0, .slice none 0 0], .bool false]) (by simp [results, Tryz.results191, go_sem, c0, c1, c2]) rfl (by first | exact ⟨false, none, 0, 0, none, 0, 0, by rw [HNO.out], fun h => absurd (HNO.out.symm.trans h) (by decide), below_stored hbW (Nat.le_refl _) _ _ _⟩ | exact Or.inl ⟨none, 0, 0, none, 0, 0, by rw [HNO.out], fun h => absurd (HNO.out.symm.trans h) (by decide), below_stored hbW (Nat.le_refl _) _ _ _⟩)
      · have HNX : Hid (∀ i (h : i < k + 1) (h' : i < L.length), L[i] ≠ 47) := by
          rw [Hid]
          intro i h h'
          by_cases hik : i = k
          · subst hik
            rw [← hgk]
            intro e
            rw [e] at h47
            exact h47 rfl
          · exact hno.out i (by omega) h'
        clear hgk hno HR
        go_wp2
        go_round
        case rel => exact ⟨k + 1, by omega, by go_num, HNX⟩
        case measure => simp [intOf]; omega
    · obtain rfl : k = s.size := by omega
      have hall : ∀ c ∈ L, c ≠ 47 := by
        intro c hc
        obtain ⟨i, hi, rfl⟩ := List.getElem_of_mem hc
        exact hno.out i (by omega) hi
      obtain ⟨p1, p2, _, _⟩ := w_parts hall
      have HW : Hid (rOk L = wOk L) := by rw [Hid, wOk, decide_eq_true hall, Bool.true_and]
      have HP1 := hide p1
      have HP2 := hide p2
      clear hno p1 p2 hall
      go_wp2_with fail
      refine (HR.out _).mono ?_
      rintro e w1 ⟨b, ao, l, cap, ao', l', cap', rfl, h1, hb1⟩
      rw [HP1.out, HP2.out, HW.out] at h1
      rw [HW.out]
      have hbox1 := hboxR.below hb1
      have hbl1 := hbW.trans (hb1.mono hbW.size)
      have hbx := hbox1
      obtain ⟨c0, c1, c2, c3, c4, c5, c6⟩ := hbx
      clear hb1 hboxR hbW
      go_wp2
      exact bodyPost_ret (v := .tuple #[.agg #[.bool b, .slice ao l cap, .slice ao' l' cap'], .bool (wOk L)]) (by simp [results, Tryz.results191, go_sem, c0, c1, c2]) rfl ⟨b, ao, l, cap, ao', l', cap', rfl, fun h => (h1 h).stored hbox1, below_stored hbl1 (Nat.le_refl _) _ _ _⟩
end Go.Proofs.YtnhfdcfnojnofaaGreatDoor.T

/-
  What the document's own wholes does (package planesref): lists of numbers.
-/
namespace Go.Proofs.YtnhfdcfnojnofaaGreatDoor.T
open Go.RowKit

/-- A number's struct: its sign, its upper part, its lower one. -/
structure Tri where
  b : Bool
  u : Option Addr × Nat × Nat
  d : Option Addr × Nat × Nat

def Tri.up (t : Tri) : Value := .slice t.u.1 t.u.2.1 t.u.2.2
def Tri.down (t : Tri) : Value := .slice t.d.1 t.d.2.1 t.d.2.2
def Tri.val (t : Tri) : Value := .agg #[.bool t.b, t.up, t.down]
def Tri.cells (t : Tri) : List Value := [.bool t.b, t.up, t.down]

/-- The cells of a list of numbers. -/
def triCells (ts : List Tri) : List Value := ts.flatMap Tri.cells

theorem triCells_get (ts : List Tri) (i : Nat) (t : Tri) (h : ts[i]? = some t) : (triCells ts)[i * 3]? = some (.bool t.b) ∧ (triCells ts)[i * 3 + 1]? = some t.up ∧ (triCells ts)[i * 3 + 2]? = some t.down := by
  induction ts generalizing i with
  | nil => simp at h
  | cons x ts ih =>
    cases i with
    | zero =>
      simp at h
      subst h
      simp [triCells, Tri.cells]
    | succ i =>
      have := ih i (by simpa using h)
      have e : triCells (x :: ts) = .bool x.b :: x.up :: x.down :: triCells ts := rfl
      rw [e, show (i + 1) * 3 = i * 3 + 1 + 1 + 1 by omega]
      simpa using this

theorem Tryz.infoNum : (Tryz.prog.info? 118).map (fun i => (i.zero, i.size, i.bytes)) = some (some (.agg #[.bool false, .slice none 0 0, .slice none 0 0]), 3, 56) := by kernel_rfl

/-- A slice value that holds the numbers zs. -/
def Nums (w : World) (v : Value) (zs : List (Int × Nat)) : Prop :=
  ∃ ts : List Tri, ts.length = zs.length ∧ (∀ (i : Nat) (t : Tri) (z : Int × Nat), ts[i]? = some t → zs[i]? = some z → NumV w t.val z.1 z.2) ∧
    ((v = .slice none 0 0 ∧ ts = []) ∨ ∃ g off cap, v = .slice (some ⟨g, off, none⟩) ts.length cap ∧ ts.length ≤ cap ∧ g < w.heap.size ∧ ∀ (i : Nat) (t : Tri), ts[i]? = some t → w.cell? ⟨g, off + i * 3, none⟩ = some (.bool t.b) ∧ w.cell? ⟨g, off + i * 3 + 1, none⟩ = some t.up ∧ w.cell? ⟨g, off + i * 3 + 2, none⟩ = some t.down)

theorem Nums.below {w w' : World} {v : Value} {zs : List (Int × Nat)} (h : Nums w v zs) (hb : Below w.heap.size w w') : Nums w' v zs := by
  obtain ⟨ts, hl, hn, hr⟩ := h
  refine ⟨ts, hl, fun i t z h1 h2 => (hn i t z h1 h2).below hb, ?_⟩
  rcases hr with hr | ⟨g, off, cap, h1, h2, h3, h4⟩
  · exact Or.inl hr
  · refine Or.inr ⟨g, off, cap, h1, h2, Nat.lt_of_lt_of_le h3 hb.size, fun i t ht => ?_⟩
    obtain ⟨c0, c1, c2⟩ := h4 i t ht
    exact ⟨(hb.cell (p := ⟨g, off + i * 3, none⟩) h3).trans c0, (hb.cell (p := ⟨g, off + i * 3 + 1, none⟩) h3).trans c1, (hb.cell (p := ⟨g, off + i * 3 + 2, none⟩) h3).trans c2⟩

theorem nums_of_owns {w : World} {base : Nat} {ap : Option Addr} {kp : Nat} {ts : List Tri} {zs : List (Int × Nat)} (h : w.ownsRow base 118 3 (.slice ap ts.length kp) ts.length (triCells ts)) (hl : ts.length = zs.length) (hn : ∀ (i : Nat) (t : Tri) (z : Int × Nat), ts[i]? = some t → zs[i]? = some z → NumV w t.val z.1 z.2) : Nums w (.slice ap ts.length kp) zs := by
  refine ⟨ts, hl, hn, ?_⟩
  have h0 := h
  obtain ⟨hl', h1 | ⟨g, cap, cur, hv, hg, hh, hn', _, _, _⟩⟩ := h
  · left
    refine ⟨h1.1, ?_⟩
    have h2 := h1.1
    simp only [Value.slice.injEq] at h2
    exact List.length_eq_zero_iff.1 h2.2.1
  · simp only [Value.slice.injEq] at hv
    obtain ⟨rfl, _, rfl⟩ := hv
    refine Or.inr ⟨g, 0, _, rfl, hn', (h0.lt g rfl).2, fun i t ht => ?_⟩
    have hi : i < ts.length := (List.getElem?_eq_some_iff.1 ht).1
    obtain ⟨c0, c1, c2⟩ := triCells_get ts i t ht
    rw [Nat.zero_add]
    exact ⟨(h0.cellAt (i * 3) (by omega)).trans c0, (h0.cellAt (i * 3 + 1) (by omega)).trans c1, (h0.cellAt (i * 3 + 2) (by omega)).trans c2⟩

theorem cell_tri_new (w : World) (t : Tri) (ty : TypeId) : ∀ (j : Nat) (u : Value), t.cells[j]? = some u → (w.alloc (.cells #[.bool t.b, t.up, t.down] ty)).cell? ((⟨w.heap.size, 0, none⟩ : Addr).add j) = some u := by
  intro j u hj
  match j, hj with
  | 0, hj => simp [Tri.cells] at hj; subst hj; simp [Addr.add]
  | 1, hj => simp [Tri.cells] at hj; subst hj; simp [Addr.add]
  | 2, hj => simp [Tri.cells] at hj; subst hj; simp [Addr.add]
  | j + 3, hj => simp [Tri.cells] at hj

theorem tri_one (t : Tri) : ∀ u ∈ t.cells, u.oneCell' = true := by
  intro u hu
  simp only [Tri.cells, List.mem_cons, List.not_mem_nil, or_false] at hu
  rcases hu with rfl | rfl | rfl <;> rfl

theorem grown_tri {w wr w3 : World} {ap : Option Addr} {kp : Nat} {ts : List Tri} {x : Tri} {v3 : Value} {o : Obj} (hown : wr.ownsRow w.heap.size 118 3 (.slice ap ts.length kp) ts.length (triCells ts)) (hbel : Below w.heap.size w wr)
    (hown3 : w3.ownsRow w.heap.size 118 3 v3 (ts.length + 1) (triCells ts ++ x.cells)) (hgrow : (wr.alloc o).grownBy w3 (Value.slice ap ts.length kp).ownBlock) (hnn : v3 ≠ .slice none 0 0) :
    ∃ ts', ts' = ts ++ [x] ∧ ts'.length = ts.length + 1 ∧ ∃ cap3 g3, v3 = .slice (some ⟨g3, 0, none⟩) ts'.length cap3 ∧ w3.ownsRow w.heap.size 118 3 (.slice (some ⟨g3, 0, none⟩) ts'.length cap3) ts'.length (triCells ts') ∧ Below w.heap.size w w3 := by
  have e : triCells ts ++ x.cells = triCells (ts ++ [x]) := by simp [triCells]
  rw [e] at hown3
  have h0 := hown3
  obtain ⟨hl, h1 | ⟨g, cap, cur, hv, hg, hh, hn, _, _, _⟩⟩ := hown3
  · exact absurd h1.1 hnn
  · subst hv
    refine ⟨_, rfl, by simp, cap, g, by simp, ?_, ?_⟩
    · rw [show (ts ++ [x]).length = ts.length + 1 by simp]; exact h0
    · exact (hbel.alloc hbel.size _).grown hgrow (by have := hbel.size; simp; omega) (fun k h => (hown.lt k h).1)
end Go.Proofs.YtnhfdcfnojnofaaGreatDoor.T
