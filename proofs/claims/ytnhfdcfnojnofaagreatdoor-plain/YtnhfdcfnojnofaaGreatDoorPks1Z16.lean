/-
  Part 16 of the texts ahead of Pks1: Plc2, Lin1, Lin2.
-/
import Derived.Test.YtnhfdcfnojnofaaGreatDoorPks1Z15
import Derived.Test.YtnhfdcfnojnofaaGreatDoorPks1Z9
import Derived.Test.YtnhfdcfnojnofaaGreatDoorPks1Z8
import Derived.Lib.IndexLaws
import Derived.Test.YtnhfdcfnojnofaaGreatDoorPks1Z5
import Derived.OwnWalkIn
import Derived.TacticsInMore
import Derived.LoopNIn
import Derived.LoopIn
import Derived.Shelf.RegionOpen
set_option linter.unusedSimpArgs false
set_option linter.unusedVariables false
/-
  What the place of a whole number on a line does (package problem): wholeInto.
-/
namespace Go.Proofs.YtnhfdcfnojnofaaGreatDoor
open Go.RowKit

/-- whole.Parse of any word. -/
theorem wparse_any (s : List UInt8) (w : World) (hs : s.length ≤ 1000000) :
    Calls Tryz.prog 74 #[.string ⟨s.toArray⟩, .int .i64 40] w fun e w' => ∃ b ao l c, e = .returned (.tuple #[.agg #[.bool b, .slice ao l c], .bool (dOk s)]) ∧ Below w.heap.size w w' ∧ (dOk s = true → WholeV w' (.agg #[.bool b, .slice ao l c]) (T.wZ s)) := by
  by_cases h : dOk s = true
  · obtain ⟨h0, h1, h2⟩ := okD_parts h
    refine (wholeParse_yes ⟨s.toArray⟩ 40 w (by omega) h0 h1 h2).mono ?_
    rintro e w' ⟨x, rfl, hx, hb⟩
    obtain ⟨b, ao, l, c, rfl, _, _⟩ := hx.parts
    exact ⟨b, ao, l, c, by rw [h], hb, fun _ => hx⟩
  · have h' : dOk s = false := by simpa using h
    refine (wholeParse_no ⟨s.toArray⟩ 40 w (by omega) (by simp [ByteArray.size]; omega) h').mono ?_
    rintro e w' ⟨b, ao, l, c, rfl, hb⟩
    exact ⟨b, ao, l, c, by rw [h'], hb, fun e => by rw [h'] at e; cases e⟩

set_option maxHeartbeats 1000000 in
set_option maxRecDepth 100000 in
theorem wholeInto_call (s : List UInt8) (q b o : Nat) (z : Int) (w : World) (h : w.cell? ⟨q, 0, none⟩ = some (.pointer (some ⟨b, o, none⟩))) (hw : WholeAt w b o z) (hq : q ≠ b) (hs : s.length ≤ 1000000) :
    Calls Tryz.prog 366 #[.string ⟨s.toArray⟩, .pointer (some ⟨q, 0, none⟩)] w fun e w' => e = .returned (.bool (dOk s)) ∧
      ∃ w1 x ao l c, Below w.heap.size w w1 ∧ w' = (w1.setCell ⟨b, o, none⟩ (.bool x)).setCell ⟨b, o + 1, none⟩ (.slice ao l c) ∧ (dOk s = true → WholeV w1 (.agg #[.bool x, .slice ao l c]) (T.wZ s)) := by
  have hm : Tryz.prog.follows .mixedOrders = true := by kernel_rfl
  have hlq : q < w.heap.size := block_lt_of_cell h
  have hlb := hw.lt
  obtain ⟨x0, a0, l0, c0, k0, k1, kw, f0, f1⟩ := hw
  have HP := hide (fun W => wparse_any s W hs)
  have HD : Hid (∃ d, dOk s = d) := ⟨_, rfl⟩
  obtain ⟨d, hd⟩ := HD.out
  rw [hd] at HP ⊢
  go_enter Tryz.func366, Tryz.ntmps366
  go_wp2
  go_region_held (fun W => W.cell? ⟨q, 0, none⟩ = some (.pointer (some ⟨b, o, none⟩))) (first | assumption | ((rw [far, far] <;> first | assumption | omega)) | go_keep)
    (first | (go_at_call 74; refine (HP.out _).mono ?_; rintro e w1 ⟨x, ao, l, c, rfl, hb1, hx⟩; have g0 := (hb1.cell (p := ⟨q, 0, none⟩) hlq).trans h; have g1 := (hb1.cell (p := ⟨b, o, none⟩) hlb).trans k0; have g2 := (hb1.cell (p := ⟨b, o + 1, none⟩) hlb).trans k1; have g3 := (hb1.frozen (p := ⟨b, o, none⟩) hlb).trans f0; have g4 := (hb1.frozen (p := ⟨b, o + 1, none⟩) hlb).trans f1))
  go_wp2
  go_ret
  exact ⟨rfl, w1, x, ao, l, c, ⟨hb1.os, hb1.tape, hb1.output, hb1.size, hb1.block⟩, rfl, hx⟩
end Go.Proofs.YtnhfdcfnojnofaaGreatDoor

/-
  strings.Cut at the end of a line, and at a blank, of texts of any length.
-/
namespace Go.Proofs.YtnhfdcfnojnofaaGreatDoor
open Go.RowKit

set_option maxHeartbeats 1000000 in
set_option maxRecDepth 100000 in
theorem index_end (s : ByteArray) (w : World) :
    Calls Tryz.prog 212 #[.string s, .string ⟨#[10]⟩] w fun e w' => e = .returned (.int .i64 (Lib.index s.data.toList [10])) ∧ w' = w := by
  by_cases h : s = ⟨#[10]⟩
  · subst h
    go_enter Tryz.func212, Tryz.ntmps212
    go_wp2
    go_ret
    exact ⟨rfl, rfl⟩
  · have hne : (([10] : List UInt8) == s.toList) = false := by
      rw [beq_eq_false_iff_ne, ByteArray.toList_eq]
      intro e
      exact h (by obtain ⟨⟨l⟩⟩ := s; simp at e; rw [← e])
    have HB := hide (indexB s.data.toList 10)
    go_enter Tryz.func212, Tryz.ntmps212
    go_wp2_with fail
    refine (Tryz.stringslite_IndexByte s 10 _).mono ?_
    rintro e w1 ⟨rfl, rfl⟩
    go_wp2
    go_ret
    exact ⟨ret_int HB.out, rfl⟩

theorem index_bd_end (l : List UInt8) : -1 ≤ Lib.index l [10] ∧ Lib.index l [10] < l.length ∨ Lib.index l [10] = -1 := by
  by_cases h : Lib.index l [10] = -1
  · exact Or.inr h
  · left
    refine ⟨Lib.index_ge _ _, ?_⟩
    rw [← indexB] at h ⊢
    have h0 := Lib.indexByte_ge l 10
    obtain ⟨o, ho⟩ : ∃ o : Nat, Lib.indexByte l 10 = (o : Int) := ⟨(Lib.indexByte l 10).toNat, by omega⟩
    rw [ho]
    have h1 := (Lib.indexByte_some ho).1
    have h2 := (List.getElem?_eq_some_iff.1 h1).1
    omega

set_option maxHeartbeats 1000000 in
set_option maxRecDepth 100000 in
theorem cut_inner_end (s : ByteArray) (w : World) (hs : s.size ≤ 9223372036854775807) :
    Calls Tryz.prog 127 #[.string s, .string ⟨#[10]⟩] w fun e w' => e = .returned (.tuple #[.string ⟨(Lib.cut s.data.toList [10]).1.toArray⟩, .string ⟨(Lib.cut s.data.toList [10]).2.1.toArray⟩, .bool (Lib.cut s.data.toList [10]).2.2]) ∧ ∃ n, w' = w.drewN n := by
  have hbd := index_bd_end s.data.toList
  rw [toList_len] at hbd
  have hcl : s.data.toList.length = s.size := toList_len s
  have HI := hide (index_end s)
  have HC : Hid (Lib.cut s.data.toList [10] = if 0 ≤ Lib.index s.data.toList [10] then (s.data.toList.take (Lib.index s.data.toList [10]).toNat, s.data.toList.drop ((Lib.index s.data.toList [10]).toNat + 1), true) else (s.data.toList, [], false)) := by rw [Hid, Lib.cut]; rfl
  generalize Lib.index s.data.toList [10] = z at *
  by_cases hz : 0 ≤ z
  · obtain ⟨k, rfl⟩ : ∃ k : Nat, z = (k : Int) := ⟨z.toNat, by omega⟩
    have hc := HC.out
    rw [if_pos hz, Int.toNat_natCast] at hc
    have HC2 := hide hc
    have e1 : ByteArray.mk (s.data.toList.take k).toArray = s.extract 0 k := (T.ba_of (by rw [Lib.extract_data, List.drop_zero, Nat.sub_zero])).symm
    have e2 : ByteArray.mk (s.data.toList.drop (k + 1)).toArray = s.extract (k + 1) s.size := (T.ba_of (by rw [Lib.extract_to_end])).symm
    have E1 := hide e1
    have E2 := hide e2
    have hk : k < s.size := by omega
    clear hc HC e1 e2 hbd hz
    go_enter Tryz.func127, Tryz.ntmps127
    go_wp2_with fail
    refine (HI.out _).mono ?_
    rintro e w1 ⟨rfl, rfl⟩
    go_wp2
    go_region
    all_goals go_wp2
    all_goals exact bodyPost_ret (v := .tuple #[.string (s.extract 0 k), .string (s.extract (k + 1) s.size), .bool true]) (by simp [results, Tryz.results127, go_sem]) rfl ⟨by rw [HC2.out, E1.out, E2.out], 1, rfl⟩
  · obtain rfl : z = -1 := by omega
    have hc := HC.out
    rw [if_neg hz] at hc
    have HC2 := hide hc
    have e1 : ByteArray.mk s.data.toList.toArray = s := rfl
    clear hc HC hbd hz
    go_enter Tryz.func127, Tryz.ntmps127
    go_wp2_with fail
    refine (HI.out _).mono ?_
    rintro e w1 ⟨rfl, rfl⟩
    go_wp2
    exact bodyPost_ret (v := .tuple #[.string s, .string ⟨#[]⟩, .bool false]) (by simp [results, Tryz.results127, go_sem]) rfl ⟨by rw [HC2.out], 0, rfl⟩

set_option maxHeartbeats 400000 in
set_option maxRecDepth 100000 in
theorem cut_end (s : ByteArray) (w : World) (hs : s.size ≤ 9223372036854775807) :
    Calls Tryz.prog 73 #[.string s, .string ⟨#[10]⟩] w fun e w' => e = .returned (.tuple #[.string ⟨(Lib.cut s.data.toList [10]).1.toArray⟩, .string ⟨(Lib.cut s.data.toList [10]).2.1.toArray⟩, .bool (Lib.cut s.data.toList [10]).2.2]) ∧ ∃ n, w' = w.drewN n := by
  have HI := hide (fun W => cut_inner_end s W hs)
  generalize Lib.cut s.data.toList [10] = c at *
  go_enter Tryz.func73, Tryz.ntmps73
  go_wp2_with fail
  refine (HI.out _).mono ?_
  rintro e w1 ⟨rfl, q, rfl⟩
  go_wp2
  exact bodyPost_ret (v := .tuple #[.string ⟨c.1.toArray⟩, .string ⟨c.2.1.toArray⟩, .bool c.2.2]) (by simp [results, Tryz.results73, go_sem]) rfl ⟨rfl, q, rfl⟩
set_option maxHeartbeats 1000000 in
set_option maxRecDepth 100000 in
theorem index_blank (s : ByteArray) (w : World) :
    Calls Tryz.prog 212 #[.string s, .string ⟨#[32]⟩] w fun e w' => e = .returned (.int .i64 (Lib.index s.data.toList [32])) ∧ w' = w := by
  by_cases h : s = ⟨#[32]⟩
  · subst h
    go_enter Tryz.func212, Tryz.ntmps212
    go_wp2
    go_ret
    exact ⟨rfl, rfl⟩
  · have hne : (([32] : List UInt8) == s.toList) = false := by
      rw [beq_eq_false_iff_ne, ByteArray.toList_eq]
      intro e
      exact h (by obtain ⟨⟨l⟩⟩ := s; simp at e; rw [← e])
    have HB := hide (indexB s.data.toList 32)
    go_enter Tryz.func212, Tryz.ntmps212
    go_wp2_with fail
    refine (Tryz.stringslite_IndexByte s 32 _).mono ?_
    rintro e w1 ⟨rfl, rfl⟩
    go_wp2
    go_ret
    exact ⟨ret_int HB.out, rfl⟩

theorem index_bd_blank (l : List UInt8) : -1 ≤ Lib.index l [32] ∧ Lib.index l [32] < l.length ∨ Lib.index l [32] = -1 := by
  by_cases h : Lib.index l [32] = -1
  · exact Or.inr h
  · left
    refine ⟨Lib.index_ge _ _, ?_⟩
    rw [← indexB] at h ⊢
    have h0 := Lib.indexByte_ge l 32
    obtain ⟨o, ho⟩ : ∃ o : Nat, Lib.indexByte l 32 = (o : Int) := ⟨(Lib.indexByte l 32).toNat, by omega⟩
    rw [ho]
    have h1 := (Lib.indexByte_some ho).1
    have h2 := (List.getElem?_eq_some_iff.1 h1).1
    omega

set_option maxHeartbeats 1000000 in
set_option maxRecDepth 100000 in
theorem cut_inner_blank (s : ByteArray) (w : World) (hs : s.size ≤ 9223372036854775807) :
    Calls Tryz.prog 127 #[.string s, .string ⟨#[32]⟩] w fun e w' => e = .returned (.tuple #[.string ⟨(Lib.cut s.data.toList [32]).1.toArray⟩, .string ⟨(Lib.cut s.data.toList [32]).2.1.toArray⟩, .bool (Lib.cut s.data.toList [32]).2.2]) ∧ ∃ n, w' = w.drewN n := by
  have hbd := index_bd_blank s.data.toList
  rw [toList_len] at hbd
  have hcl : s.data.toList.length = s.size := toList_len s
  have HI := hide (index_blank s)
  have HC : Hid (Lib.cut s.data.toList [32] = if 0 ≤ Lib.index s.data.toList [32] then (s.data.toList.take (Lib.index s.data.toList [32]).toNat, s.data.toList.drop ((Lib.index s.data.toList [32]).toNat + 1), true) else (s.data.toList, [], false)) := by rw [Hid, Lib.cut]; rfl
  generalize Lib.index s.data.toList [32] = z at *
  by_cases hz : 0 ≤ z
  · obtain ⟨k, rfl⟩ : ∃ k : Nat, z = (k : Int) := ⟨z.toNat, by omega⟩
    have hc := HC.out
    rw [if_pos hz, Int.toNat_natCast] at hc
    have HC2 := hide hc
    have e1 : ByteArray.mk (s.data.toList.take k).toArray = s.extract 0 k := (T.ba_of (by rw [Lib.extract_data, List.drop_zero, Nat.sub_zero])).symm
    have e2 : ByteArray.mk (s.data.toList.drop (k + 1)).toArray = s.extract (k + 1) s.size := (T.ba_of (by rw [Lib.extract_to_end])).symm
    have E1 := hide e1
    have E2 := hide e2
    have hk : k < s.size := by omega
    clear hc HC e1 e2 hbd hz
    go_enter Tryz.func127, Tryz.ntmps127
    go_wp2_with fail
    refine (HI.out _).mono ?_
    rintro e w1 ⟨rfl, rfl⟩
    go_wp2
    go_region
    all_goals go_wp2
    all_goals exact bodyPost_ret (v := .tuple #[.string (s.extract 0 k), .string (s.extract (k + 1) s.size), .bool true]) (by simp [results, Tryz.results127, go_sem]) rfl ⟨by rw [HC2.out, E1.out, E2.out], 1, rfl⟩
  · obtain rfl : z = -1 := by omega
    have hc := HC.out
    rw [if_neg hz] at hc
    have HC2 := hide hc
    have e1 : ByteArray.mk s.data.toList.toArray = s := rfl
    clear hc HC hbd hz
    go_enter Tryz.func127, Tryz.ntmps127
    go_wp2_with fail
    refine (HI.out _).mono ?_
    rintro e w1 ⟨rfl, rfl⟩
    go_wp2
    exact bodyPost_ret (v := .tuple #[.string s, .string ⟨#[]⟩, .bool false]) (by simp [results, Tryz.results127, go_sem]) rfl ⟨by rw [HC2.out], 0, rfl⟩

set_option maxHeartbeats 400000 in
set_option maxRecDepth 100000 in
theorem cut_blank (s : ByteArray) (w : World) (hs : s.size ≤ 9223372036854775807) :
    Calls Tryz.prog 73 #[.string s, .string ⟨#[32]⟩] w fun e w' => e = .returned (.tuple #[.string ⟨(Lib.cut s.data.toList [32]).1.toArray⟩, .string ⟨(Lib.cut s.data.toList [32]).2.1.toArray⟩, .bool (Lib.cut s.data.toList [32]).2.2]) ∧ ∃ n, w' = w.drewN n := by
  have HI := hide (fun W => cut_inner_blank s W hs)
  generalize Lib.cut s.data.toList [32] = c at *
  go_enter Tryz.func73, Tryz.ntmps73
  go_wp2_with fail
  refine (HI.out _).mono ?_
  rintro e w1 ⟨rfl, q, rfl⟩
  go_wp2
  exact bodyPost_ret (v := .tuple #[.string ⟨c.1.toArray⟩, .string ⟨c.2.1.toArray⟩, .bool c.2.2]) (by simp [results, Tryz.results73, go_sem]) rfl ⟨rfl, q, rfl⟩
end Go.Proofs.YtnhfdcfnojnofaaGreatDoor

/-
  What package lines does: its two iterators, over the lines of a text and over the words of a line.
-/
namespace Go.Proofs.YtnhfdcfnojnofaaGreatDoor
open Go.RowKit
attribute [local go_sem] Oper.semAt_some

/-- What a line is as a value. -/
def lineV (k : Nat) (x : List UInt8 × Bool) (last : Bool) : Array Value := #[.agg #[.int .i64 ((k + 1 : Nat) : Int), .string ⟨x.1.toArray⟩, .bool x.2, .bool last]]
def lineVs : Nat → List (List UInt8 × Bool) → List (Array Value)
  | _, [] => []
  | k, x :: r => lineV k x r.isEmpty :: lineVs (k + 1) r

/-- No line is left just where no text is left. -/
theorem linesF_empty {f : Nat} {l : List UInt8} (h : l.length ≤ f) : (linesF f l).isEmpty = l.isEmpty := by
  by_cases hl : l = []
  · subst hl; rw [linesF_nil]; simp
  · obtain ⟨f, rfl⟩ : ∃ f', f = f' + 1 := ⟨f - 1, by have := List.length_pos_iff.2 hl; omega⟩
    rw [linesF, if_neg hl]; simp [hl]

theorem lineVs_len (k : Nat) (l : List (List UInt8 × Bool)) : (lineVs k l).length = l.length := by
  induction l generalizing k with
  | nil => rfl
  | cons x r ih => simp [lineVs, ih]

set_option maxHeartbeats 1000000 in
set_option maxRecDepth 100000 in
theorem of_seq (s : List UInt8) (hs : s.length ≤ 1000000000) (bt : Nat) :
    SeqL Tryz.prog 237 #[.pointer (some ⟨bt, 0, none⟩)] (lineVs 0 (lines s)) (fun W => W.cell? ⟨bt, 0, none⟩ = some (.string ⟨s.toArray⟩)) := by
  obtain ⟨vs, hvs⟩ : ∃ vs, lineVs 0 (lines s) = vs := ⟨_, rfl⟩
  rw [hvs]
  have hst := hide hvs
  clear hvs
  intro l J Jx M0 W hJ hJx hC hY h0
  have hc := (hC 0 M0 W h0).1
  have HY := hide hY
  clear hY
  refine (callsIn_wide (n := 0)).1 ?_
  refine callsIn_of_wp Tryz.func237 rfl trivial ?_ rfl
  simp only [Tryz.ntmps237, List.size_toArray, List.length_cons, List.length_nil, Nat.reduceAdd, Nat.reduceSub, Array.replicate_succ, Array.replicate_zero, List.push_toArray, List.append_toArray, List.nil_append, List.cons_append]
  gi_wp2
  gi_loopw [3, 4] (fun r n wr => ∃ (f k : Nat) (M : Nat → Prop) (rs : List UInt8), r = .string ⟨rs.toArray⟩ ∧ n = .int .i64 ((k + 1 : Nat) : Int) ∧ rs.length ≤ f ∧ rs.length ≤ 1000000000 ∧ k ≤ vs.length ∧ vs.length ≤ 1000000000 ∧ Hid (vs.drop k = lineVs k (linesF f rs)) ∧ J k M wr)
    (fun r _ _ => strLen r)
  case atStart => exact ⟨s.length, 0, M0, s, rfl, rfl, Nat.le_refl _, hs, Nat.zero_le _, by rw [← hst.out, lineVs_len]; exact Nat.le_trans (linesF_len _ s).1 hs, hst.out.symm, h0⟩
  case round =>
    obtain ⟨f, k, M, rs, rfl, rfl, hf, hr9, hk, hv9, HV, hj⟩ := hrel
    by_cases hr : rs = []
    · subst hr
      gi_wp2
      go_end0
      have hd := HV.out
      rw [linesF_nil] at hd
      have hkl : vs.length ≤ k := List.drop_eq_nil_iff.1 hd
      obtain rfl : k = vs.length := by omega
      exact ⟨⟨_, rfl⟩, .inl ⟨M, hj⟩⟩
    · have hre : rs.isEmpty = false := by simpa using hr
      obtain ⟨f, rfl⟩ : ∃ f', f = f' + 1 := ⟨f - 1, by have := List.length_pos_iff.2 hr; omega⟩
      obtain ⟨c, hcut⟩ : ∃ c, Lib.cut rs [10] = c := ⟨_, rfl⟩
      have HK := hide hcut
      clear hcut
      gi_wp2
      refine ⟨trivial, rfl, (callsIn_wide.2 (cut_end _ _ (by simp [ByteArray.size]; omega))).mono ?_⟩
      simp only []
      rw [HK.out]
      rintro e w1 ⟨rfl, q, rfl⟩
      gi_wp2
      have hb1 : Below wr.heap.size wr (((((wr.alloc (.cells #[.int .i64 ((k : Int) + 1), .string ⟨#[]⟩, .bool false, .bool false] 243)).drewN q).setCell ⟨wr.heap.size, 1, none⟩ (.string ⟨c.1.toArray⟩)).setCell ⟨wr.heap.size, 2, none⟩ (.bool c.2.2)).setCell ⟨wr.heap.size, 3, none⟩ (.bool c.2.1.isEmpty)) :=
        (((Below.drawn ((Below.refl _ wr).alloc (Nat.le_refl _) _) q).setCell (p := ⟨wr.heap.size, 1, none⟩) (Nat.le_refl _) _).setCell (p := ⟨wr.heap.size, 2, none⟩) (Nat.le_refl _) _).setCell (p := ⟨wr.heap.size, 3, none⟩) (Nat.le_refl _) _
      have hd := HV.out
      have hck := HK.out
      rw [linesF, if_neg hr, hck, lineVs] at hd
      have hvk : vs[k]? = some (lineV k (c.1, c.2.2) (linesF f c.2.1).isEmpty) := by
        have := congrArg (fun l => l[0]?) hd
        simpa using this
      have hdn : vs.drop (k + 1) = lineVs (k + 1) (linesF f c.2.1) := by
        have := congrArg List.tail hd
        simpa using this
      have hkl : k < vs.length := (List.getElem?_eq_some_iff.1 hvk).1
      have HD := hide hdn
      have hlen := cutB_len 10 rs
      rw [hck] at hlen
      have hlr : c.2.1.length < rs.length := by
        by_cases h2 : c.2.2 = true
        · rw [if_pos h2] at hlen; omega
        · have := cutB_no (c := 10) (l := rs) (by rw [hck]; simpa using h2)
          rw [hck] at this
          rw [this]
          exact List.length_pos_iff.2 hr
      rw [linesF_empty (by omega)] at hvk
      clear hd hck hdn HV HK hlen
      refine at_yield (HY.out k _ _ _ hvk (hJ _ _ _ _ hj (Keep.of_below hb1))) ?_ ?_
      · rintro W3 ⟨_, M3, hj3, _⟩
        gi_wp2
        go_roundw
        case rel => exact ⟨f, k + 1, M3, c.2.1, rfl, by simp, by omega, by omega, by omega, hv9, HD, hj3⟩
        case measure => simp [strLen, ByteArray.size]; omega
      · intro W3 hj3
        gi_wp2
        refine bodyPost_ret (results_none rfl _ _ _) rfl ?_
        exact ⟨⟨_, rfl⟩, .inr ⟨k, hkl, hj3.2⟩⟩

def bval : Value → Nat | .bool true => 1 | _ => 0
theorem size_mkl (l : List UInt8) : (ByteArray.mk l.toArray).size = l.length := by simp [ByteArray.size]

/-- What a word is as a value. -/
def wordV (x : List UInt8) : Array Value := #[.string ⟨x.toArray⟩]

set_option maxHeartbeats 1000000 in
set_option maxRecDepth 100000 in
theorem words_seq (s : List UInt8) (hs : s.length ≤ 1000000000) (bt : Nat) :
    SeqL Tryz.prog 370 #[.pointer (some ⟨bt, 0, none⟩)] ((words s).map wordV) (fun W => W.cell? ⟨bt, 0, none⟩ = some (.string ⟨s.toArray⟩)) := by
  obtain ⟨vs, hvs⟩ : ∃ vs, (words s).map wordV = vs := ⟨_, rfl⟩
  rw [hvs]
  have hst := hide hvs
  clear hvs
  intro l J Jx M0 W hJ hJx hC hY h0
  have hc := (hC 0 M0 W h0).1
  have HY := hide hY
  clear hY
  have HS : Hid (∃ c, Lib.cut s [32] = c) := ⟨_, rfl⟩
  obtain ⟨c0, hc0⟩ := HS.out
  have HC0 := hide hc0
  clear hc0 HS
  refine (callsIn_wide (n := 0)).1 ?_
  refine callsIn_of_wp Tryz.func370 rfl trivial ?_ rfl
  simp only [Tryz.ntmps370, List.size_toArray, List.length_cons, List.length_nil, Nat.reduceAdd, Nat.reduceSub, Array.replicate_succ, Array.replicate_zero, List.push_toArray, List.append_toArray, List.nil_append, List.cons_append]
  gi_wp2
  refine ⟨trivial, rfl, (callsIn_wide.2 (cut_blank _ _ (by simp [ByteArray.size]; omega))).mono ?_⟩
  simp only []
  rw [HC0.out]
  rintro e w1 ⟨rfl, q, rfl⟩
  gi_wp2
  have hj0 : J 0 M0 (W.drewN q) := hJ _ _ _ _ h0 (Keep.drewN _ _ q)
  gi_loopw [3, 4, 5] (fun a b c wr => ∃ (f k : Nat) (M : Nat → Prop) (cur : List UInt8) (d : List UInt8 × List UInt8 × Bool), a = .string ⟨d.1.toArray⟩ ∧ b = .string ⟨d.2.1.toArray⟩ ∧ c = .bool d.2.2 ∧ Hid (Lib.cut cur [32] = d) ∧ cur.length ≤ f ∧ cur.length ≤ 1000000000 ∧ Hid (vs.drop k = (wordsF (f + 1) cur).map wordV) ∧ J k M wr)
    (fun _ b c _ => strLen b + bval c)
  case atStart => exact ⟨s.length, 0, M0, s, c0, rfl, rfl, rfl, HC0, Nat.le_refl _, hs, hst.out.symm, hj0⟩
  case round =>
    obtain ⟨f, k, M, cur, d, rfl, rfl, rfl, HK, hf, hr9, HV, hj⟩ := hrel
    have hd := HV.out
    have hck := HK.out
    rw [wordsF, hck, List.map_cons] at hd
    have hvk : vs[k]? = some (wordV d.1) := by
      have := congrArg (fun l => l[0]?) hd
      simpa using this
    have hdn : vs.drop (k + 1) = (if d.2.2 = true then wordsF f d.2.1 else []).map wordV := by
      have := congrArg List.tail hd
      simpa using this
    have hkl : k < vs.length := (List.getElem?_eq_some_iff.1 hvk).1
    have HD := hide hdn
    have hlen := cutB_len 32 cur
    rw [hck] at hlen
    clear hd hck hdn HV HK
    gi_wp2
    refine at_yield (HY.out k _ _ _ hvk hj) ?_ ?_
    · rintro W3 ⟨_, M3, hj3, _⟩
      by_cases h2 : d.2.2 = true
      · rw [if_pos h2] at hlen
        obtain ⟨f, rfl⟩ : ∃ f', f = f' + 1 := ⟨f - 1, by omega⟩
        have hd := HD.out
        rw [if_pos h2] at hd
        have HD2 := hide hd
        clear hd HD
        obtain ⟨c, hcut⟩ : ∃ c, Lib.cut d.2.1 [32] = c := ⟨_, rfl⟩
        have HK := hide hcut
        clear hcut
        gi_wp2
        refine ⟨trivial, rfl, (callsIn_wide.2 (cut_blank _ _ (by simp [ByteArray.size]; omega))).mono ?_⟩
        simp only []
        rw [HK.out]
        rintro e w1 ⟨rfl, q, rfl⟩
        gi_wp2
        go_roundw
        case rel => exact ⟨f, k + 1, M3, d.2.1, c, rfl, rfl, rfl, HK, by omega, by omega, HD2, hJ _ _ _ _ hj3 (Keep.drewN _ _ q)⟩
        case measure =>
          have := cutB_len 32 d.2.1
          rw [HK.out] at this
          have e1 : bval (.bool c.2.2) = if c.2.2 = true then 1 else 0 := by cases c.2.2 <;> rfl
          have e2 : bval (.bool d.2.2) = 1 := by rw [h2]; rfl
          simp [strLen, e1, e2, size_mkl]
          omega
      · have h2' : d.2.2 = false := by simpa using h2
        gi_wp2
        go_end0
        have hd := HD.out
        rw [if_neg h2] at hd
        have hl : vs.length ≤ k + 1 := List.drop_eq_nil_iff.1 (by simpa using hd)
        have he : k + 1 = vs.length := by omega
        exact ⟨⟨_, rfl⟩, .inl ⟨M3, he ▸ hj3⟩⟩
    · intro W3 hj3
      gi_wp2
      go_end0
      exact ⟨⟨_, rfl⟩, .inr ⟨k, hkl, hj3.2⟩⟩

set_option maxHeartbeats 400000 in
theorem of_mk (s : ByteArray) (w : World) :
    Calls Tryz.prog 147 #[.string s] w fun e w' => e = .returned (.func (.func 237) #[] #[.pointer (some ⟨w.heap.size, 0, none⟩)]) ∧ w' = w.alloc (.cells #[.string s] 9) := by
  go_enter Tryz.func147, Tryz.ntmps147
  have hmf : ∀ (fn : Fn) (first cap : Array Value) (w : World), (Instr.makeFunc fn first cap).run Tryz.prog w = .ok (.func fn first cap) w := fun _ _ _ _ => rfl
  go_wp2
  go_ret
  exact ⟨rfl, rfl⟩

set_option maxHeartbeats 400000 in
theorem words_mk (s : ByteArray) (w : World) :
    Calls Tryz.prog 331 #[.string s] w fun e w' => e = .returned (.func (.func 370) #[] #[.pointer (some ⟨w.heap.size, 0, none⟩)]) ∧ w' = w.alloc (.cells #[.string s] 9) := by
  go_enter Tryz.func331, Tryz.ntmps331
  have hmf : ∀ (fn : Fn) (first cap : Array Value) (w : World), (Instr.makeFunc fn first cap).run Tryz.prog w = .ok (.func fn first cap) w := fun _ _ _ _ => rfl
  go_wp2
  go_ret
  exact ⟨rfl, rfl⟩
end Go.Proofs.YtnhfdcfnojnofaaGreatDoor
